/-
  Plain laws of what deeds make of entries; no claim stands here.
-/
import Derived.Test.YtanknhalgoheeaaXMath
namespace Go.Proofs.Ytanknhalgoheeaa
set_option linter.unusedVariables false

theorem has_iff {l : List En} {c k : Int} : hasE l c k = true ↔ ∃ x ∈ l, sameE x c k = true := by unfold hasE; exact List.any_eq_true
theorem has_perm {l m : List En} {c k : Int} (h : ∀ x, x ∈ l ↔ x ∈ m) : hasE l c k = hasE m c k := by
  rw [Bool.eq_iff_iff, has_iff, has_iff]
  constructor
  · rintro ⟨x, hx, hs⟩; exact ⟨x, (h x).1 hx, hs⟩
  · rintro ⟨x, hx, hs⟩; exact ⟨x, (h x).2 hx, hs⟩
theorem apart_app : ∀ (l m : List En), apart (l ++ m) = true ↔ apart l = true ∧ apart m = true ∧ ∀ x ∈ l, hasE m x.c x.k = false
  | [], m => by simp [apart]
  | y :: l, m => by
    rw [List.cons_append, apart, apart, Bool.and_eq_true, Bool.and_eq_true, apart_app l m]
    simp only [hasE, List.any_append, Bool.not_eq_true', Bool.or_eq_false_iff, List.mem_cons, forall_eq_or_imp]
    constructor
    · rintro ⟨⟨h1, h2⟩, h3, h4, h5⟩; exact ⟨⟨h1, h3⟩, h4, h2, h5⟩
    · rintro ⟨⟨h1, h3⟩, h4, h2, h5⟩; exact ⟨⟨h1, h2⟩, h3, h4, h5⟩
theorem same_symm {x y : En} : sameE x y.c y.k = sameE y x.c x.k := by
  unfold sameE
  by_cases h : x.c = y.c ∧ x.k = y.k
  · rw [decide_eq_true h, decide_eq_true (by omega)]
  · rw [decide_eq_false h, decide_eq_false (by omega)]
theorem put_len {l : List En} {p : Nat} {x : En} (hp : p ≤ l.length) : (putE l p x).length = l.length + 1 := by
  simp only [putE, List.length_append, List.length_take, List.length_drop, List.length_cons, List.length_nil]
  omega
theorem put_mem {l : List En} {p : Nat} {x y : En} : y ∈ putE l p x ↔ y = x ∨ y ∈ l := by
  simp only [putE, List.mem_append, List.mem_singleton]
  constructor
  · rintro ((h | h) | h)
    · exact .inr (List.mem_of_mem_take h)
    · exact .inl h
    · exact .inr (List.mem_of_mem_drop h)
  · rintro (h | h)
    · exact .inl (.inr h)
    · rw [← List.take_append_drop p l] at h
      rcases List.mem_append.1 h with h | h
      · exact .inl (.inl h)
      · exact .inr h
theorem has_false {l : List En} {c k : Int} : hasE l c k = false ↔ ∀ x ∈ l, sameE x c k = false := by
  unfold hasE
  rw [List.any_eq_false]
  constructor
  · intro h x hx; simpa using h x hx
  · intro h x hx; simpa using h x hx
theorem put_apart {l : List En} {p : Nat} {x : En} (h : apart l = true) (hx : hasE l x.c x.k = false) : apart (putE l p x) = true := by
  rw [← List.take_append_drop p l] at h
  obtain ⟨h1, h2, h3⟩ := (apart_app _ _).1 h
  have hx' := has_false.1 hx
  unfold putE
  rw [apart_app]
  refine ⟨?_, h2, ?_⟩
  · rw [apart_append, h1, Bool.true_and, Bool.not_eq_true', has_false]
    intro y hy
    exact hx' y (List.mem_of_mem_take hy)
  · intro y hy
    rcases List.mem_append.1 hy with hy | hy
    · exact h3 y hy
    · rw [List.mem_singleton] at hy
      subst hy
      rw [has_false]
      intro z hz
      exact hx' z (List.mem_of_mem_drop hz)
theorem hide_len (l : List En) (c k : Int) : (hideE l c k).length = l.length := by simp [hideE]
theorem hide_has (l : List En) (c k a b : Int) : hasE (hideE l c k) a b = hasE l a b := by
  unfold hasE hideE
  rw [List.any_map]
  congr 1
  funext x
  simp only [Function.comp]
  split <;> rfl
theorem hide_apart : ∀ (l : List En) (c k : Int), apart l = true → apart (hideE l c k) = true
  | [], _, _, _ => rfl
  | x :: l, c, k, h => by
    rw [apart, Bool.and_eq_true] at h
    have ih := hide_apart l c k h.2
    show apart ((if sameE x c k then { x with g := true } else x) :: hideE l c k) = true
    rw [apart, ih, Bool.and_true, hide_has]
    split
    · exact h.1
    · exact h.1
/-- among those no two of one Id: the one place is turned -/
theorem hide_set : ∀ {l : List En} {c k : Int} {q : Nat} {x : En}, apart l = true → findE l c k = some q → l[q]? = some x → hideE l c k = l.set q { x with g := true }
  | [], _, _, _, _, _, h, _ => by cases h
  | y :: l, c, k, q, x, ha, hf, hx => by
    rw [apart, Bool.and_eq_true, Bool.not_eq_true'] at ha
    rw [findE] at hf
    cases hs : sameE y c k with
    | true =>
      rw [hs, if_pos rfl] at hf
      injection hf with hf
      subst hf
      have hyx : y = x := by simpa using hx
      subst hyx
      show (if sameE y c k then { y with g := true } else y) :: hideE l c k = _
      rw [hs, if_pos rfl, List.set_cons_zero]
      congr 1
      have hn : ∀ z ∈ l, sameE z c k = false := by
        intro z hz
        have h1 := has_false.1 ha.1 z hz
        unfold sameE at hs h1 ⊢
        rw [decide_eq_true_eq] at hs
        rw [decide_eq_false_iff_not] at h1 ⊢
        omega
      unfold hideE
      conv => rhs; rw [← List.map_id l]
      refine List.map_congr_left fun z hz => ?_
      rw [hn z hz]
      rfl
    | false =>
      rw [hs, if_neg (by simp)] at hf
      cases hf2 : findE l c k with
      | none => rw [hf2] at hf; cases hf
      | some j =>
        rw [hf2] at hf
        simp only [Option.map_some, Option.some.injEq] at hf
        subst hf
        have ih := hide_set ha.2 hf2 (show l[j]? = some x by simpa using hx)
        show (if sameE y c k then { y with g := true } else y) :: hideE l c k = _
        rw [hs, if_neg (by simp), List.set_cons_succ, ih]
theorem hide_wf {l : List En} {c k : Int} (h : ∀ x ∈ l, wfE x) : ∀ x ∈ hideE l c k, wfE x := by
  intro x hx
  obtain ⟨y, hy, rfl⟩ := List.mem_map.1 hx
  have := h y hy
  split
  · exact this
  · exact this
theorem put_wf {l : List En} {p : Nat} {x : En} (h : ∀ y ∈ l, wfE y) (hx : wfE x) : ∀ y ∈ putE l p x, wfE y := by
  intro y hy
  rcases put_mem.1 hy with rfl | hy
  · exact hx
  · exact h y hy
theorem ap_wf {l : List En} (h : ∀ x ∈ l, wfE x) : ∀ x ∈ apOf l, wfE x := ap_all l [] wfE (by simp) h

end Go.Proofs.Ytanknhalgoheeaa
