/-
  The order of items, told by paths, in plain mathematics: no memory; no claim stands here.
-/
import Derived.Test.YtmpomammieenjaaNMath
namespace Go.Proofs.Ytmpomammieenjaa
set_option linter.unusedVariables false

abbrev I2 := Int × Int
def iid (x : It) : I2 := (x.c, x.k)
def ilf (x : It) : I2 := (x.lc, x.lk)
def irt (x : It) : I2 := (x.rc, x.rk)
def ltI (a b : I2) : Bool := decide (a.1 < b.1 ∨ (a.1 = b.1 ∧ a.2 < b.2))
theorem ltI_iff {a b : I2} : ltI a b = true ↔ (a.1 < b.1 ∨ (a.1 = b.1 ∧ a.2 < b.2)) := by unfold ltI; simp
theorem ltI_asymm {a b : I2} (h : ltI a b = true) : ltI b a = false := by
  rw [ltI_iff] at h
  cases hb : ltI b a with
  | false => rfl
  | true => rw [ltI_iff] at hb; omega
theorem ltI_trans {a b c : I2} (h : ltI a b = true) (k : ltI b c = true) : ltI a c = true := by
  rw [ltI_iff] at *; omega
theorem ltI_total {a b : I2} (h : a ≠ b) : ltI a b = true ∨ ltI b a = true := by
  rw [ltI_iff, ltI_iff]
  have : ¬ (a.1 = b.1 ∧ a.2 = b.2) := fun ⟨h1, h2⟩ => h (Prod.ext h1 h2)
  omega

/-! paths: a step is a side (true: to the right) and an Id -/
abbrev Pth := List (Bool × I2)
def ltP : Pth → Pth → Bool
  | [], [] => false
  | [], (s, _) :: _ => s
  | (s, _) :: _, [] => !s
  | (s, a) :: p, (t, b) :: q => if s = t then (if a = b then ltP p q else ltI a b) else !s
theorem ltP_irrefl : ∀ p : Pth, ltP p p = false
  | [] => rfl
  | (s, a) :: p => by rw [ltP, if_pos rfl, if_pos rfl, ltP_irrefl p]
theorem ltP_asymm : ∀ {p q : Pth}, ltP p q = true → ltP q p = false
  | [], [], h => by cases h
  | [], (s, b) :: q, h => by
    have h : s = true := h
    subst h; rfl
  | (s, a) :: p, [], h => by
    have h : (!s) = true := h
    show s = false
    cases s
    · rfl
    · cases h
  | (s, a) :: p, (t, b) :: q, h => by
    rw [ltP] at h ⊢
    by_cases hs : s = t
    · subst hs
      rw [if_pos rfl] at h ⊢
      by_cases ha : a = b
      · subst ha
        rw [if_pos rfl] at h ⊢
        exact ltP_asymm h
      · rw [if_neg ha] at h
        rw [if_neg (fun e => ha e.symm)]
        exact ltI_asymm h
    · rw [if_neg hs] at h
      rw [if_neg (fun e => hs e.symm)]
      cases s <;> cases t <;> simp_all
theorem ltP_trans : ∀ {p q r : Pth}, ltP p q = true → ltP q r = true → ltP p r = true
  | [], [], r, h, k => by cases h
  | p, [], [], h, k => by cases k
  | [], (t, b) :: q, [], h, k => by
    have h : t = true := h
    have k : (!t) = true := k
    subst h; cases k
  | [], (t, b) :: q, (u, c) :: r, h, k => by
    have h : t = true := h
    subst h
    show u = true
    rw [ltP] at k
    cases u
    · simp at k
    · rfl
  | (s, a) :: p, [], (u, c) :: r, h, k => by
    have h : (!s) = true := h
    have k : u = true := k
    subst k
    cases s
    · rw [ltP]; simp
    · cases h
  | (s, a) :: p, (t, b) :: q, [], h, k => by
    have k : (!t) = true := k
    show (!s) = true
    rw [ltP] at h
    cases t
    · cases s
      · rfl
      · simp at h
    · cases k
  | (s, a) :: p, (t, b) :: q, (u, c) :: r, h, k => by
    rw [ltP] at h k ⊢
    by_cases hs : s = t
    · subst hs
      rw [if_pos rfl] at h
      by_cases hu : s = u
      · subst hu
        rw [if_pos rfl] at k ⊢
        by_cases ha : a = b
        · subst ha
          rw [if_pos rfl] at h
          by_cases hc : a = c
          · subst hc
            rw [if_pos rfl] at k ⊢
            exact ltP_trans h k
          · rw [if_neg hc] at k ⊢; exact k
        · rw [if_neg ha] at h
          by_cases hc : b = c
          · subst hc
            rw [if_neg ha]; exact h
          · rw [if_neg hc] at k
            have hac := ltI_trans h k
            have hne : a ≠ c := fun e => by
              subst e
              rw [ltI_asymm h] at k; cases k
            rw [if_neg hne]; exact hac
      · rw [if_neg hu] at k ⊢; exact k
    · rw [if_neg hs] at h
      have hs0 : s = false := by cases s <;> simp_all
      have ht1 : t = true := by cases t <;> simp_all
      subst hs0
      subst ht1
      have hu1 : u = true := by
        cases u
        · simp at k
        · rfl
      subst hu1
      simp
theorem ltP_total : ∀ {p q : Pth}, p ≠ q → ltP p q = true ∨ ltP q p = true
  | [], [], h => absurd rfl h
  | [], (s, b) :: q, h => by
    show s = true ∨ (!s) = true
    cases s <;> simp
  | (s, a) :: p, [], h => by
    show (!s) = true ∨ s = true
    cases s <;> simp
  | (s, a) :: p, (t, b) :: q, h => by
    rw [ltP, ltP]
    by_cases hs : s = t
    · subst hs
      rw [if_pos rfl, if_pos rfl]
      by_cases ha : a = b
      · subst ha
        rw [if_pos rfl, if_pos rfl]
        exact ltP_total (fun e => h (by rw [e]))
      · rw [if_neg ha, if_neg (fun e => ha e.symm)]
        exact ltI_total ha
    · rw [if_neg hs, if_neg (fun e => hs e.symm)]
      cases s <;> cases t <;> simp_all
theorem ltP_right (p : Pth) (a : I2) (q : Pth) : ltP p (p ++ (true, a) :: q) = true := by
  induction p with
  | nil => rfl
  | cons x p ih => obtain ⟨s, b⟩ := x; rw [List.cons_append, ltP, if_pos rfl, if_pos rfl]; exact ih
theorem ltP_left (p : Pth) (a : I2) (q : Pth) : ltP (p ++ (false, a) :: q) p = true := by
  induction p with
  | nil => rfl
  | cons x p ih => obtain ⟨s, b⟩ := x; rw [List.cons_append, ltP, if_pos rfl, if_pos rfl]; exact ih
theorem ltP_beyond : ∀ {p q : Pth}, ltP p q = true → (∀ r, q ≠ p ++ r) → ∀ z, ltP (p ++ z) q = true
  | [], q, h, hn, z => absurd rfl (hn q)
  | (s, a) :: p, [], h, hn, z => h
  | (s, a) :: p, (t, b) :: q, h, hn, z => by
    rw [List.cons_append, ltP]
    rw [ltP] at h
    by_cases hs : s = t
    · subst hs
      rw [if_pos rfl] at h ⊢
      by_cases ha : a = b
      · subst ha
        rw [if_pos rfl] at h ⊢
        exact ltP_beyond h (fun r e => hn r (by rw [e]; rfl)) z
      · rw [if_neg ha] at h ⊢; exact h
    · rw [if_neg hs] at h ⊢; exact h

/-! lists that rise -/
theorem sorted_ext {α : Type} {lt : α → α → Prop} (irr : ∀ a, ¬ lt a a) (asy : ∀ a b, lt a b → ¬ lt b a) : ∀ {l m : List α}, l.Pairwise lt → m.Pairwise lt → (∀ x, x ∈ l ↔ x ∈ m) → l = m
  | [], [], _, _, _ => rfl
  | [], b :: m, _, _, h => by have := (h b).2 (List.mem_cons_self ..); cases this
  | a :: l, [], _, _, h => by have := (h a).1 (List.mem_cons_self ..); cases this
  | a :: l, b :: m, h1, h2, h => by
    rw [List.pairwise_cons] at h1 h2
    have hab : a = b := by
      rcases List.mem_cons.1 ((h a).1 (List.mem_cons_self ..)) with e | ha
      · exact e
      · rcases List.mem_cons.1 ((h b).2 (List.mem_cons_self ..)) with e | hb
        · exact e.symm
        · exact absurd (h1.1 b hb) (asy _ _ (h2.1 a ha))
    subst hab
    congr 1
    refine sorted_ext irr asy h1.2 h2.2 fun x => ?_
    constructor
    · intro hx
      rcases List.mem_cons.1 ((h x).1 (List.mem_cons_of_mem _ hx)) with e | hm
      · subst e; exact absurd (h1.1 _ hx) (irr _)
      · exact hm
    · intro hx
      rcases List.mem_cons.1 ((h x).2 (List.mem_cons_of_mem _ hx)) with e | hm
      · subst e; exact absurd (h2.1 _ hx) (irr _)
      · exact hm

end Go.Proofs.Ytmpomammieenjaa
