/-
  Entries in order, in plain lists: no memory; no claim stands here.
-/
import Derived.KernelRfl
namespace Go.Proofs.Ytanknhalgoheeaa
set_option linter.unusedVariables false

structure En where
  c : Int
  k : Int
  ch : Int
  g : Bool
def wfE (x : En) : Prop := 0 ≤ x.c ∧ x.c ≤ 4294967295 ∧ 0 ≤ x.k ∧ x.k ≤ 4294967295 ∧ -2147483648 ≤ x.ch ∧ x.ch ≤ 2147483647
def sameE (x : En) (c k : Int) : Bool := decide (x.c = c ∧ x.k = k)
/-- where an Id's entry is -/
def findE : List En → Int → Int → Option Nat
  | [], _, _ => none
  | x :: l, c, k => if sameE x c k then some 0 else (findE l c k).map (· + 1)
def hasE (l : List En) (c k : Int) : Bool := l.any fun x => sameE x c k
/-- the places of those that aren't Gone -/
def shownG (i : Nat) : List En → List Nat
  | [] => []
  | x :: l => if x.g then shownG (i + 1) l else i :: shownG (i + 1) l
def shownE (l : List En) : List Nat := shownG 0 l
/-- each that has an Id that one ahead of it has is left out -/
def apStep (o : List En) (x : En) : List En := if hasE o x.c x.k then o else o ++ [x]
def apOf (l : List En) : List En := l.foldl apStep []
/-- no two of one Id -/
def apart : List En → Bool
  | [] => true
  | x :: l => !hasE l x.c x.k && apart l
def putE (l : List En) (at' : Nat) (x : En) : List En := l.take at' ++ [x] ++ l.drop at'
def hideE (l : List En) (c k : Int) : List En := l.map fun x => if sameE x c k then { x with g := true } else x

theorem find_none {l : List En} {c k : Int} : findE l c k = none ↔ hasE l c k = false := by
  induction l with
  | nil => simp [findE, hasE]
  | cons x l ih =>
    simp only [findE, hasE, List.any_cons]
    cases h : sameE x c k with
    | true => simp
    | false =>
      simp only [Bool.false_eq_true, if_false, Option.map_eq_none_iff, Bool.false_or]
      exact ih
theorem find_some {l : List En} {c k : Int} {i : Nat} (h : findE l c k = some i) : ∃ x, l[i]? = some x ∧ sameE x c k = true := by
  induction l generalizing i with
  | nil => cases h
  | cons x l ih =>
    rw [findE] at h
    cases hs : sameE x c k with
    | true =>
      rw [hs, if_pos rfl] at h
      injection h with h
      subst h
      exact ⟨x, rfl, hs⟩
    | false =>
      rw [hs, if_neg (by simp)] at h
      cases hf : findE l c k with
      | none => rw [hf] at h; cases h
      | some j =>
        rw [hf] at h
        simp only [Option.map_some, Option.some.injEq] at h
        subst h
        obtain ⟨y, h1, h2⟩ := ih hf
        exact ⟨y, by simpa using h1, h2⟩
theorem find_lt {l : List En} {c k : Int} {i : Nat} (h : findE l c k = some i) : i < l.length := by
  obtain ⟨x, h1, _⟩ := find_some h
  exact (List.getElem?_eq_some_iff.1 h1).1
theorem find_drop {l : List En} {c k : Int} {i : Nat} {x : En} (hx : l[i]? = some x) (h : sameE x c k = false) : findE (l.drop i) c k = (findE (l.drop (i + 1)) c k).map (· + 1) := by
  obtain ⟨hi, e⟩ := List.getElem?_eq_some_iff.1 hx
  rw [List.drop_eq_getElem_cons hi, e, findE, h, if_neg (by simp)]
theorem find_here {l : List En} {c k : Int} {i : Nat} {x : En} (hx : l[i]? = some x) (h : sameE x c k = true) : findE (l.drop i) c k = some 0 := by
  obtain ⟨hi, e⟩ := List.getElem?_eq_some_iff.1 hx
  rw [List.drop_eq_getElem_cons hi, e, findE, h, if_pos rfl]
theorem has_take {l : List En} {c k : Int} {i : Nat} {x : En} (hx : l[i]? = some x) : hasE (l.take (i + 1)) c k = (hasE (l.take i) c k || sameE x c k) := by
  rw [List.take_add_one, hx, hasE, hasE, List.any_append]
  simp
theorem shown_step {l : List En} {i : Nat} {x : En} (hx : l[i]? = some x) : shownG i (l.drop i) = if x.g then shownG (i + 1) (l.drop (i + 1)) else i :: shownG (i + 1) (l.drop (i + 1)) := by
  obtain ⟨hi, e⟩ := List.getElem?_eq_some_iff.1 hx
  rw [List.drop_eq_getElem_cons hi, e, shownG]
theorem shown_lt : ∀ (l : List En) (i : Nat), ∀ p ∈ shownG i l, i ≤ p ∧ p < i + l.length
  | [], i, p, h => by simp [shownG] at h
  | x :: l, i, p, h => by
    rw [List.length_cons]
    rw [shownG] at h
    split at h
    · have := shown_lt l (i + 1) p h; omega
    · rcases List.mem_cons.1 h with rfl | h
      · omega
      · have := shown_lt l (i + 1) p h; omega
theorem shown_len : ∀ (l : List En) (i : Nat), (shownG i l).length ≤ l.length
  | [], i => by simp [shownG]
  | x :: l, i => by
    have := shown_len l (i + 1)
    rw [shownG]
    split <;> simp <;> omega
theorem ap_take {l : List En} {k : Nat} {x : En} (h : l[k]? = some x) : apOf (l.take (k + 1)) = apStep (apOf (l.take k)) x := by
  rw [List.take_add_one, h]
  simp [apOf]
theorem ap_len : ∀ (l o : List En), (l.foldl apStep o).length ≤ o.length + l.length
  | [], o => by simp
  | x :: l, o => by
    have := ap_len l (apStep o x)
    have h2 : (apStep o x).length ≤ o.length + 1 := by unfold apStep; split <;> simp
    simp only [List.foldl_cons, List.length_cons]
    omega
theorem ap_le (l : List En) : (apOf l).length ≤ l.length := by have := ap_len l []; simpa [apOf] using this
theorem ap_all : ∀ (l o : List En) (p : En → Prop), (∀ x ∈ o, p x) → (∀ x ∈ l, p x) → ∀ x ∈ l.foldl apStep o, p x
  | [], o, p, ho, _ => ho
  | y :: l, o, p, ho, hl => by
    refine ap_all l (apStep o y) p ?_ (fun x hx => hl x (List.mem_cons_of_mem _ hx))
    intro x hx
    unfold apStep at hx
    split at hx
    · exact ho x hx
    · rcases List.mem_append.1 hx with h1 | h1
      · exact ho x h1
      · rw [List.mem_singleton] at h1
        subst h1
        exact hl x (List.mem_cons_self ..)
theorem apart_append : ∀ (l : List En) (x : En), apart (l ++ [x]) = (apart l && !hasE l x.c x.k)
  | [], x => by simp [apart, hasE]
  | y :: l, x => by
    have ih := apart_append l x
    have hs : sameE x y.c y.k = sameE y x.c x.k := by
      unfold sameE
      by_cases h : x.c = y.c ∧ x.k = y.k
      · rw [decide_eq_true h, decide_eq_true (by omega)]
      · rw [decide_eq_false h, decide_eq_false (by omega)]
    simp only [List.cons_append, apart, hasE, List.any_append, List.any_cons, List.any_nil, Bool.or_false] at ih ⊢
    rw [ih, hs]
    cases (l.any fun z => sameE z y.c y.k) <;> cases sameE y x.c x.k <;> cases apart l <;> cases (l.any fun z => sameE z x.c x.k) <;> rfl
theorem ap_apart : ∀ (l o : List En), apart o = true → apart (l.foldl apStep o) = true
  | [], o, h => h
  | x :: l, o, h => by
    refine ap_apart l (apStep o x) ?_
    unfold apStep
    split
    · exact h
    · rename_i hx
      rw [apart_append, h]
      simpa using hx
theorem apart_ap (l : List En) : apart (apOf l) = true := ap_apart l [] rfl

end Go.Proofs.Ytanknhalgoheeaa
