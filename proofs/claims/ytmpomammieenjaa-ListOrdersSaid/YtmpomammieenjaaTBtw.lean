/-
  What is put between two that stand side by side stands there; below, by climbing; in plain mathematics: no memory; no claim stands here.
-/
import Derived.Test.YtmpomammieenjaaTKnown
namespace Go.Proofs.Ytmpomammieenjaa
set_option linter.unusedVariables false

theorem ltP_pre (p q r : Pth) : ltP (p ++ q) (p ++ r) = ltP q r := by
  induction p with
  | nil => rfl
  | cons x p ih => obtain ⟨s, a⟩ := x; rw [List.cons_append, List.cons_append, ltP, if_pos rfl, if_pos rfl]; exact ih
theorem pth_anc {l : List It} (h : knownI l = true) : ∀ b, hasI l b = true → ∀ t ∈ (pth l b).dropLast, ∃ s c r, pth l b = pth l t.2 ++ (s, c) :: r := by
  refine snoc_ind (P := fun l => knownI l = true → ∀ b, hasI l b = true → ∀ t ∈ (pth l b).dropLast, ∃ s c r, pth l b = pth l t.2 ++ (s, c) :: r) (fun _ b h => by simp [hasI] at h) (fun l x ih h b hb t ht => ?_) l h
  rw [known_snoc, Bool.and_eq_true] at h
  obtain ⟨_, hno, _, _⟩ := knownX_spec h.2
  cases hl : hasI l b with
  | true =>
    rw [pth_old hl] at ht ⊢
    obtain ⟨s, c, r, e⟩ := ih h.1 b hl t ht
    obtain ⟨s1, p1, e1, hp⟩ := pth_ends h.1 b hl
    have htl : hasI l t.2 = true := by rw [e1, List.dropLast_concat] at ht; exact (hp t ht).1
    exact ⟨s, c, r, by rw [pth_old htl]; exact e⟩
  | false =>
    rw [has_snoc, hl, Bool.false_or, decide_eq_true_eq] at hb
    subst hb
    rw [pth_new hno, newP_eq] at ht ⊢
    rw [List.dropLast_concat] at ht
    rcases hgP_on h.2 with e | e
    · rw [e, pth_none (has_root h.1 0)] at ht
      cases ht
    · obtain ⟨s1, p1, e1, hp⟩ := pth_ends h.1 _ e
      rw [e1] at ht
      rcases List.mem_append.1 ht with ht1 | ht1
      · have ht2 : t ∈ (pth l (hgP l x).on).dropLast := by rw [e1, List.dropLast_concat]; exact ht1
        obtain ⟨s, c, r, e2⟩ := ih h.1 _ e t ht2
        exact ⟨s, c, r ++ [((hgP l x).right, iid x)], by rw [pth_old (hp t ht1).1, e2]; simp⟩
      · rw [List.mem_singleton] at ht1
        subst ht1
        exact ⟨_, _, [], by rw [pth_old e]⟩
theorem drop_get {α : Type} {l : List α} {k : Nat} {x : α} (h : l[k]? = some x) : l.drop k = x :: l.drop (k + 1) := by
  obtain ⟨hk, e⟩ := List.getElem?_eq_some_iff.1 h
  rw [List.drop_eq_getElem_cons hk, e]
theorem take_get {α : Type} {l : List α} {k : Nat} {x : α} (h : l[k]? = some x) : l.take (k + 1) = l.take k ++ [x] := by
  rw [List.take_add_one, h]
  rfl

end Go.Proofs.Ytmpomammieenjaa
