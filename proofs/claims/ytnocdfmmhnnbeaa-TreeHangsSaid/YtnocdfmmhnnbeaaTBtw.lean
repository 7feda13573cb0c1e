/-
  What is put between two that stand side by side stands there; below, by climbing; in plain mathematics: no memory; no claim stands here.
-/
import Derived.Test.YtnocdfmmhnnbeaaTKnown
namespace Go.Proofs.Ytnocdfmmhnnbeaa
set_option linter.unusedVariables false

theorem ltP_pre (p q r : Pth) : ltP (p ++ q) (p ++ r) = ltP q r := by
  induction p with
  | nil => rfl
  | cons x p ih => obtain ⟨s, a⟩ := x; rw [List.cons_append, List.cons_append, ltP, if_pos rfl, if_pos rfl]; exact ih
/-- what is on the way to an item is above it -/
theorem pth_anc {l : List It} (h : knownI l = true) : ∀ b, hasI l b = true → ∀ t ∈ (pth l b).dropLast, ∃ s c r, pth l b = pth l t.2 ++ (s, c) :: r := by
  refine snoc_ind (P := fun l => knownI l = true → ∀ b, hasI l b = true → ∀ t ∈ (pth l b).dropLast, ∃ s c r, pth l b = pth l t.2 ++ (s, c) :: r) (fun _ b h => by simp [hasI] at h) (fun l x ih h b hb t ht => ?_) l h
  rw [known_snoc, Bool.and_eq_true] at h
  obtain ⟨_, hno, _, _⟩ := knownX_spec h.2
  cases hl : hasI l b with
  | true =>
    rw [pth_old hl] at ht ⊢
    obtain ⟨s, c, r, e⟩ := ih h.1 b hl t ht
    obtain ⟨s1, p1, e1, hp⟩ := pth_ends h.1 b hl
    have htl : hasI l t.2 = true := by rw [e1, List.dropLast_concat] at ht; exact (hp t ht).1
    exact ⟨s, c, r, by rw [pth_old htl]; exact e⟩
  | false =>
    rw [has_snoc, hl, Bool.false_or, decide_eq_true_eq] at hb
    subst hb
    rw [pth_new hno, newP_eq] at ht ⊢
    rw [List.dropLast_concat] at ht
    rcases hgP_on h.2 with e | e
    · rw [e, pth_none (has_root h.1 0)] at ht
      cases ht
    · obtain ⟨s1, p1, e1, hp⟩ := pth_ends h.1 _ e
      rw [e1] at ht
      rcases List.mem_append.1 ht with ht1 | ht1
      · have ht2 : t ∈ (pth l (hgP l x).on).dropLast := by rw [e1, List.dropLast_concat]; exact ht1
        obtain ⟨s, c, r, e2⟩ := ih h.1 _ e t ht2
        exact ⟨s, c, r ++ [((hgP l x).right, iid x)], by rw [pth_old (hp t ht1).1, e2]; simp⟩
      · rw [List.mem_singleton] at ht1
        subst ht1
        exact ⟨_, _, [], by rw [pth_old e]⟩
theorem pth_above {l : List It} (h : knownI l = true) {a b : I2} {x : Bool × I2} {r : Pth} (ha : hasI l a = true) (e : pth l b = pth l a ++ x :: r) : ((pth l b).dropLast.any fun s => decide (s.2 = a)) = true := by
  obtain ⟨s, p, e1, _⟩ := pth_ends h a ha
  rw [e, e1, List.any_eq_true]
  refine ⟨(s, a), ?_, by simp⟩
  rw [List.append_assoc, List.dropLast_append_of_ne_nil (by simp)]
  refine List.mem_append_right _ ?_
  show (s, a) ∈ ((s, a) :: x :: r).dropLast
  rw [List.dropLast_cons_cons]
  exact List.mem_cons_self ..

theorem drop_get {α : Type} {l : List α} {k : Nat} {x : α} (h : l[k]? = some x) : l.drop k = x :: l.drop (k + 1) := by
  obtain ⟨hk, e⟩ := List.getElem?_eq_some_iff.1 h
  rw [List.drop_eq_getElem_cons hk, e]
theorem take_get {α : Type} {l : List α} {k : Nat} {x : α} (h : l[k]? = some x) : l.take (k + 1) = l.take k ++ [x] := by
  rw [List.take_add_one, h]
  rfl

/-- what is put between two that stand side by side, or at an end -/
theorem ord_between {l : List It} {o : List I2} {x : It} {k : Nat} (hl : knownI l = true) (ho : IsOrd l o) (hx : knownX l x = true) (hk : k ≤ o.length)
    (hlf : ∀ j a, k = j + 1 → o[j]? = some a → ilf x = a) (hlf0 : k = 0 → x.lc = 0) (hrt : ∀ b, o[k]? = some b → irt x = b) (hrt0 : o.length = k → x.rc = 0) :
    IsOrd (l ++ [x]) (o.take k ++ iid x :: o.drop k) := by
  obtain ⟨hc, hno, _, _⟩ := knownX_spec hx
  have hin : ∀ a ∈ o, hasI l a = true := fun a ha => (ho.all a).1 ha
  have hclient : ∀ a ∈ o, a.1 ≠ 0 := fun a ha e => by
    have := hin a ha
    obtain ⟨c, k'⟩ := a
    simp only at e
    subst e
    rw [has_root hl k'] at this; cases this
  have hold : ∀ a ∈ o, pth (l ++ [x]) a = pth l a := fun a ha => pth_old (hin a ha)
  have hnew : pth (l ++ [x]) (iid x) = pth l (hgP l x).on ++ [((hgP l x).right, iid x)] := by rw [pth_new hno, newP_eq]
  -- the two neighbours
  have hL1 : ∀ j a, k = j + 1 → o[j]? = some a → ltP (pth l a) (pth (l ++ [x]) (iid x)) = true := by
    intro j a hkj hja
    have ea := hlf j a hkj hja
    have hao := List.mem_of_getElem? hja
    have hlc : x.lc ≠ 0 := by have := hclient a hao; rw [← ea] at this; exact this
    rw [hnew]
    unfold hgP plcP
    split
    · rename_i hb
      obtain ⟨hr, hb⟩ := hb
      have hk2 : k < o.length := by
        rcases Nat.lt_or_ge k o.length with h | h
        · exact h
        · exact absurd (hrt0 (by omega)) hr
      obtain ⟨b, hbk⟩ : ∃ b, o[k]? = some b := ⟨_, List.getElem?_eq_getElem hk2⟩
      have eb := hrt b hbk
      have hbo := List.mem_of_getElem? hbk
      unfold blwP at hb
      rw [show decide ((ilf x).1 = 0) = false by simp [ilf, hlc], Bool.false_or, List.any_eq_true] at hb
      obtain ⟨t, ht, e⟩ := hb
      have e : t.2 = ilf x := by simpa using e
      rw [eb] at ht ⊢
      obtain ⟨s, c, r, ep⟩ := pth_anc hl b (hin b hbo) t ht
      rw [e, ea] at ep
      have hab : ltP (pth l a) (pth l b) = true := by
        have h1 := ho.rise
        have h2 : o = o.take j ++ a :: o.drop (j + 1) := by rw [← drop_get hja, List.take_append_drop]
        rw [h2, List.pairwise_append] at h1
        have h3 := (List.pairwise_cons.1 h1.2.1).1 b
        refine h3 ?_
        rw [← hkj]
        exact List.mem_of_getElem? (i := 0) (by rw [List.getElem?_drop]; simpa using hbk)
      rw [ep] at hab ⊢
      have hs : s = true := by
        have h4 := ltP_pre (pth l a) [] ((s, c) :: r)
        rw [List.append_nil] at h4
        rw [h4] at hab
        exact hab
      subst hs
      simp only [List.append_assoc, List.cons_append]
      exact ltP_right _ _ _
    · simp only
      first
        | rw [if_neg hlc, ea]
        | rw [ea]
      exact ltP_right _ _ _
  have hL2 : ∀ b, o[k]? = some b → ltP (pth (l ++ [x]) (iid x)) (pth l b) = true := by
    intro b hbk
    have eb := hrt b hbk
    have hbo := List.mem_of_getElem? hbk
    have hrc : x.rc ≠ 0 := by have := hclient b hbo; rw [← eb] at this; exact this
    rw [hnew]
    unfold hgP plcP
    split
    · simp only
      rw [eb]
      exact ltP_left _ _ _
    · rename_i hb
      have hb : blwP l (paths l) (irt x) (ilf x) = false := by
        cases hh : blwP l (paths l) (irt x) (ilf x) with
        | false => rfl
        | true => exact absurd ⟨hrc, hh⟩ hb
      unfold blwP at hb
      rw [Bool.or_eq_false_iff] at hb
      have hlc : x.lc ≠ 0 := of_decide_eq_false hb.1
      have hk0 : k ≠ 0 := fun e => hlc (hlf0 e)
      obtain ⟨j, hkj⟩ : ∃ j, k = j + 1 := ⟨k - 1, by omega⟩
      obtain ⟨a, hja⟩ : ∃ a, o[j]? = some a := ⟨_, List.getElem?_eq_getElem (by omega)⟩
      have ea := hlf j a hkj hja
      have hao := List.mem_of_getElem? hja
      simp only
      first
        | rw [if_neg hlc, ea]
        | rw [ea]
      have hab : ltP (pth l a) (pth l b) = true := by
        have h1 := ho.rise
        have h2 : o = o.take j ++ a :: o.drop (j + 1) := by rw [← drop_get hja, List.take_append_drop]
        rw [h2, List.pairwise_append] at h1
        have h3 := (List.pairwise_cons.1 h1.2.1).1 b
        refine h3 ?_
        rw [← hkj]
        exact List.mem_of_getElem? (i := 0) (by rw [List.getElem?_drop]; simpa using hbk)
      refine ltP_beyond hab (fun r e => ?_) _
      cases r with
      | nil =>
        rw [List.append_nil] at e
        rw [e, ltP_irrefl] at hab
        cases hab
      | cons y r =>
        have := pth_above hl (hin a hao) e
        have h5 := hb.2
        rw [eb, ea] at h5
        unfold pth at this
        rw [this] at h5
        cases h5
  constructor
  · intro a
    rw [has_snoc, List.mem_append, List.mem_cons, ← Bool.or_comm, Bool.or_eq_true, decide_eq_true_eq, ← ho.all]
    have hsplit : a ∈ o ↔ a ∈ o.take k ∨ a ∈ o.drop k := by rw [← List.mem_append, List.take_append_drop]
    rw [hsplit]
    constructor
    · rintro (h | h | h)
      · exact .inr (.inl h)
      · exact .inl h.symm
      · exact .inr (.inr h)
    · rintro (h | h | h)
      · exact .inr (.inl h.symm)
      · exact .inl h
      · exact .inr (.inr h)
  · have h1 := ho.rise
    rw [← List.take_append_drop k o, List.pairwise_append] at h1
    obtain ⟨ht, hd, htd⟩ := h1
    have hto : ∀ a ∈ o.take k, a ∈ o := fun a ha => List.mem_of_mem_take ha
    have hdo : ∀ a ∈ o.drop k, a ∈ o := fun a ha => List.mem_of_mem_drop ha
    have hup : ∀ {a b : I2}, a ∈ o → b ∈ o → ltO l a b → ltO (l ++ [x]) a b := fun ha hb h => by unfold ltO at *; rw [hold _ ha, hold _ hb]; exact h
    have hxl : ∀ a ∈ o.take k, ltO (l ++ [x]) a (iid x) := by
      intro a ha
      have hk0 : k ≠ 0 := fun e => by rw [e] at ha; simp at ha
      obtain ⟨j, hkj⟩ : ∃ j, k = j + 1 := ⟨k - 1, by omega⟩
      obtain ⟨c, hjc⟩ : ∃ c, o[j]? = some c := ⟨_, List.getElem?_eq_getElem (by omega)⟩
      have hcx := hL1 j c hkj hjc
      unfold ltO
      rw [hold a (hto a ha)]
      rw [hkj, take_get hjc] at ha ht
      rcases List.mem_append.1 ha with h | h
      · have := (List.pairwise_append.1 ht).2.2 a h c (List.mem_singleton.2 rfl)
        exact ltP_trans this hcx
      · rw [List.mem_singleton] at h
        subst h
        exact hcx
    have hxr : ∀ b ∈ o.drop k, ltO (l ++ [x]) (iid x) b := by
      intro b hb
      have hk2 : k < o.length := by
        rcases Nat.lt_or_ge k o.length with h | h
        · exact h
        · rw [List.drop_eq_nil_of_le h] at hb; cases hb
      obtain ⟨c, hkc⟩ : ∃ c, o[k]? = some c := ⟨_, List.getElem?_eq_getElem hk2⟩
      have hcx := hL2 c hkc
      unfold ltO
      rw [hold b (hdo b hb)]
      rw [drop_get hkc] at hb hd
      rcases List.mem_cons.1 hb with h | h
      · subst h; exact hcx
      · exact ltP_trans hcx ((List.pairwise_cons.1 hd).1 b h)
    rw [List.pairwise_append]
    refine ⟨ht.imp_of_mem (fun ha hb h => hup (hto _ ha) (hto _ hb) h), List.pairwise_cons.2 ⟨hxr, hd.imp_of_mem (fun ha hb h => hup (hdo _ ha) (hdo _ hb) h)⟩, ?_⟩
    intro a ha b hb
    rcases List.mem_cons.1 hb with h | h
    · subst h; exact hxl a ha
    · exact hup (hto a ha) (hdo b h) (htd a ha b h)

end Go.Proofs.Ytnocdfmmhnnbeaa
