/-
  Plain laws of what deeds make of entries; no claim stands here.
-/
import Derived.Test.YtmpomammieenjaaXMath
namespace Go.Proofs.Ytmpomammieenjaa
set_option linter.unusedVariables false

theorem has_iff {l : List En} {c k : Int} : hasE l c k = true ↔ ∃ x ∈ l, sameE x c k = true := by unfold hasE; exact List.any_eq_true
theorem put_len {l : List En} {p : Nat} {x : En} (hp : p ≤ l.length) : (putE l p x).length = l.length + 1 := by
  simp only [putE, List.length_append, List.length_take, List.length_drop, List.length_cons, List.length_nil]
  omega
theorem has_false {l : List En} {c k : Int} : hasE l c k = false ↔ ∀ x ∈ l, sameE x c k = false := by
  unfold hasE
  rw [List.any_eq_false]
  constructor
  · intro h x hx; simpa using h x hx
  · intro h x hx; simpa using h x hx
theorem hide_set : ∀ {l : List En} {c k : Int} {q : Nat} {x : En}, apart l = true → findE l c k = some q → l[q]? = some x → hideE l c k = l.set q { x with g := true }
  | [], _, _, _, _, _, h, _ => by cases h
  | y :: l, c, k, q, x, ha, hf, hx => by
    rw [apart, Bool.and_eq_true, Bool.not_eq_true'] at ha
    rw [findE] at hf
    cases hs : sameE y c k with
    | true =>
      rw [hs, if_pos rfl] at hf
      injection hf with hf
      subst hf
      have hyx : y = x := by simpa using hx
      subst hyx
      show (if sameE y c k then { y with g := true } else y) :: hideE l c k = _
      rw [hs, if_pos rfl, List.set_cons_zero]
      congr 1
      have hn : ∀ z ∈ l, sameE z c k = false := by
        intro z hz
        have h1 := has_false.1 ha.1 z hz
        unfold sameE at hs h1 ⊢
        rw [decide_eq_true_eq] at hs
        rw [decide_eq_false_iff_not] at h1 ⊢
        omega
      unfold hideE
      conv => rhs; rw [← List.map_id l]
      refine List.map_congr_left fun z hz => ?_
      rw [hn z hz]
      rfl
    | false =>
      rw [hs, if_neg (by simp)] at hf
      cases hf2 : findE l c k with
      | none => rw [hf2] at hf; cases hf
      | some j =>
        rw [hf2] at hf
        simp only [Option.map_some, Option.some.injEq] at hf
        subst hf
        have ih := hide_set ha.2 hf2 (show l[j]? = some x by simpa using hx)
        show (if sameE y c k then { y with g := true } else y) :: hideE l c k = _
        rw [hs, if_neg (by simp), List.set_cons_succ, ih]
end Go.Proofs.Ytmpomammieenjaa
