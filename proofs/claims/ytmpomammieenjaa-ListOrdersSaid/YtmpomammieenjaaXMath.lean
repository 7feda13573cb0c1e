/-
  Entries in order, in plain lists: no memory; no claim stands here.
-/
import Derived.KernelRfl
namespace Go.Proofs.Ytmpomammieenjaa
set_option linter.unusedVariables false

structure En where
  c : Int
  k : Int
  ch : Int
  g : Bool
def sameE (x : En) (c k : Int) : Bool := decide (x.c = c ∧ x.k = k)
def findE : List En → Int → Int → Option Nat
  | [], _, _ => none
  | x :: l, c, k => if sameE x c k then some 0 else (findE l c k).map (· + 1)
def hasE (l : List En) (c k : Int) : Bool := l.any fun x => sameE x c k
def shownG (i : Nat) : List En → List Nat
  | [] => []
  | x :: l => if x.g then shownG (i + 1) l else i :: shownG (i + 1) l
def shownE (l : List En) : List Nat := shownG 0 l
def apart : List En → Bool
  | [] => true
  | x :: l => !hasE l x.c x.k && apart l
def putE (l : List En) (at' : Nat) (x : En) : List En := l.take at' ++ [x] ++ l.drop at'
def hideE (l : List En) (c k : Int) : List En := l.map fun x => if sameE x c k then { x with g := true } else x

theorem find_none {l : List En} {c k : Int} : findE l c k = none ↔ hasE l c k = false := by
  induction l with
  | nil => simp [findE, hasE]
  | cons x l ih =>
    simp only [findE, hasE, List.any_cons]
    cases h : sameE x c k with
    | true => simp
    | false =>
      simp only [Bool.false_eq_true, if_false, Option.map_eq_none_iff, Bool.false_or]
      exact ih
theorem find_some {l : List En} {c k : Int} {i : Nat} (h : findE l c k = some i) : ∃ x, l[i]? = some x ∧ sameE x c k = true := by
  induction l generalizing i with
  | nil => cases h
  | cons x l ih =>
    rw [findE] at h
    cases hs : sameE x c k with
    | true =>
      rw [hs, if_pos rfl] at h
      injection h with h
      subst h
      exact ⟨x, rfl, hs⟩
    | false =>
      rw [hs, if_neg (by simp)] at h
      cases hf : findE l c k with
      | none => rw [hf] at h; cases h
      | some j =>
        rw [hf] at h
        simp only [Option.map_some, Option.some.injEq] at h
        subst h
        obtain ⟨y, h1, h2⟩ := ih hf
        exact ⟨y, by simpa using h1, h2⟩
theorem find_lt {l : List En} {c k : Int} {i : Nat} (h : findE l c k = some i) : i < l.length := by
  obtain ⟨x, h1, _⟩ := find_some h
  exact (List.getElem?_eq_some_iff.1 h1).1
theorem find_drop {l : List En} {c k : Int} {i : Nat} {x : En} (hx : l[i]? = some x) (h : sameE x c k = false) : findE (l.drop i) c k = (findE (l.drop (i + 1)) c k).map (· + 1) := by
  obtain ⟨hi, e⟩ := List.getElem?_eq_some_iff.1 hx
  rw [List.drop_eq_getElem_cons hi, e, findE, h, if_neg (by simp)]
theorem find_here {l : List En} {c k : Int} {i : Nat} {x : En} (hx : l[i]? = some x) (h : sameE x c k = true) : findE (l.drop i) c k = some 0 := by
  obtain ⟨hi, e⟩ := List.getElem?_eq_some_iff.1 hx
  rw [List.drop_eq_getElem_cons hi, e, findE, h, if_pos rfl]
theorem shown_step {l : List En} {i : Nat} {x : En} (hx : l[i]? = some x) : shownG i (l.drop i) = if x.g then shownG (i + 1) (l.drop (i + 1)) else i :: shownG (i + 1) (l.drop (i + 1)) := by
  obtain ⟨hi, e⟩ := List.getElem?_eq_some_iff.1 hx
  rw [List.drop_eq_getElem_cons hi, e, shownG]
theorem shown_lt : ∀ (l : List En) (i : Nat), ∀ p ∈ shownG i l, i ≤ p ∧ p < i + l.length
  | [], i, p, h => by simp [shownG] at h
  | x :: l, i, p, h => by
    rw [List.length_cons]
    rw [shownG] at h
    split at h
    · have := shown_lt l (i + 1) p h; omega
    · rcases List.mem_cons.1 h with rfl | h
      · omega
      · have := shown_lt l (i + 1) p h; omega
theorem shown_len : ∀ (l : List En) (i : Nat), (shownG i l).length ≤ l.length
  | [], i => by simp [shownG]
  | x :: l, i => by
    have := shown_len l (i + 1)
    rw [shownG]
    split <;> simp <;> omega
end Go.Proofs.Ytmpomammieenjaa
