/-
  The order of items, told by paths, in plain mathematics: no memory; no claim stands here.
-/
import Derived.Test.YtdpmhhfpjpdfiaaNMath
namespace Go.Proofs.Ytdpmhhfpjpdfiaa
set_option linter.unusedVariables false

abbrev I2 := Int × Int
def iid (x : It) : I2 := (x.c, x.k)
def ilf (x : It) : I2 := (x.lc, x.lk)
def irt (x : It) : I2 := (x.rc, x.rk)
def ltI (a b : I2) : Bool := decide (a.1 < b.1 ∨ (a.1 = b.1 ∧ a.2 < b.2))
theorem ltI_iff {a b : I2} : ltI a b = true ↔ (a.1 < b.1 ∨ (a.1 = b.1 ∧ a.2 < b.2)) := by unfold ltI; simp
theorem ltI_asymm {a b : I2} (h : ltI a b = true) : ltI b a = false := by
  rw [ltI_iff] at h
  cases hb : ltI b a with
  | false => rfl
  | true => rw [ltI_iff] at hb; omega
theorem ltI_trans {a b c : I2} (h : ltI a b = true) (k : ltI b c = true) : ltI a c = true := by
  rw [ltI_iff] at *; omega
theorem ltI_total {a b : I2} (h : a ≠ b) : ltI a b = true ∨ ltI b a = true := by
  rw [ltI_iff, ltI_iff]
  have : ¬ (a.1 = b.1 ∧ a.2 = b.2) := fun ⟨h1, h2⟩ => h (Prod.ext h1 h2)
  omega

/-! paths: a step is a side (true: to the right) and an Id -/
abbrev Pth := List (Bool × I2)
/-! lists that rise -/
theorem sorted_ext {α : Type} {lt : α → α → Prop} (irr : ∀ a, ¬ lt a a) (asy : ∀ a b, lt a b → ¬ lt b a) : ∀ {l m : List α}, l.Pairwise lt → m.Pairwise lt → (∀ x, x ∈ l ↔ x ∈ m) → l = m
  | [], [], _, _, _ => rfl
  | [], b :: m, _, _, h => by have := (h b).2 (List.mem_cons_self ..); cases this
  | a :: l, [], _, _, h => by have := (h a).1 (List.mem_cons_self ..); cases this
  | a :: l, b :: m, h1, h2, h => by
    rw [List.pairwise_cons] at h1 h2
    have hab : a = b := by
      rcases List.mem_cons.1 ((h a).1 (List.mem_cons_self ..)) with e | ha
      · exact e
      · rcases List.mem_cons.1 ((h b).2 (List.mem_cons_self ..)) with e | hb
        · exact e.symm
        · exact absurd (h1.1 b hb) (asy _ _ (h2.1 a ha))
    subst hab
    congr 1
    refine sorted_ext irr asy h1.2 h2.2 fun x => ?_
    constructor
    · intro hx
      rcases List.mem_cons.1 ((h x).1 (List.mem_cons_of_mem _ hx)) with e | hm
      · subst e; exact absurd (h1.1 _ hx) (irr _)
      · exact hm
    · intro hx
      rcases List.mem_cons.1 ((h x).2 (List.mem_cons_of_mem _ hx)) with e | hm
      · subst e; exact absurd (h2.1 _ hx) (irr _)
      · exact hm

end Go.Proofs.Ytdpmhhfpjpdfiaa
