/-
  Below, by climbing; the order, by walking; in plain mathematics: no memory; no claim stands here.
-/
import Derived.Test.YtmpomammieenjaaTBtw
namespace Go.Proofs.Ytmpomammieenjaa
set_option linter.unusedVariables false

def hangsG (p : List It) (hs : List Hg) : List It → List Hg
  | [] => hs
  | x :: r => hangsG (p ++ [x]) (hs ++ [hgP p x]) r
def hangsP (l : List It) : List Hg := hangsG [] [] l
theorem hangsG_snoc : ∀ (l p : List It) (hs : List Hg) (x : It), hangsG p hs (l ++ [x]) = hangsG p hs l ++ [hgP (p ++ l) x]
  | [], p, hs, x => by simp [hangsG]
  | y :: l, p, hs, x => by
    rw [List.cons_append, hangsG, hangsG, hangsG_snoc l]
    simp
theorem hangs_snoc (l : List It) (x : It) : hangsP (l ++ [x]) = hangsP l ++ [hgP l x] := by
  have := hangsG_snoc l [] [] x
  simpa [hangsP] using this
theorem hangs_len (l : List It) : (hangsP l).length = l.length := by
  refine snoc_ind (P := fun l => (hangsP l).length = l.length) rfl (fun l x ih => ?_) l
  rw [hangs_snoc]
  simp [ih]
theorem hangs_at (l : List It) : ∀ {i : Nat} {x : It}, l[i]? = some x → (hangsP l)[i]? = some (hgP (l.take i) x) := by
  refine snoc_ind (P := fun l => ∀ {i : Nat} {x : It}, l[i]? = some x → (hangsP l)[i]? = some (hgP (l.take i) x)) (fun h => by simp at h) (fun l y ih => ?_) l
  intro i x h
  rw [hangs_snoc]
  rcases Nat.lt_or_ge i l.length with hi | hi
  · rw [List.getElem?_append_left hi] at h
    rw [List.getElem?_append_left (by rw [hangs_len]; exact hi), List.take_append_of_le_length (by omega)]
    exact ih h
  · have hi2 : i = l.length := by
      have := (List.getElem?_eq_some_iff.1 h).1
      rw [List.length_append] at this
      simp at this
      omega
    subst hi2
    rw [List.getElem?_append_right (Nat.le_refl _), Nat.sub_self] at h
    obtain rfl : y = x := by simpa using h
    rw [List.getElem?_append_right (by rw [hangs_len]; exact Nat.le_refl _), hangs_len, Nat.sub_self, List.take_left]
    rfl
theorem fnd_has {l : List It} {a : I2} (h : hasI l a = true) : ∃ i, fnd l a = some i := by
  cases hf : fnd l a with
  | none => rw [fnd_none.1 hf] at h; cases h
  | some i => exact ⟨i, rfl⟩
theorem pth_by {l : List It} (h : knownI l = true) {a : I2} {i : Nat} (hf : fnd l a = some i) : ∃ x, l[i]? = some x ∧ iid x = a ∧ (hangsP l)[i]? = some (hgP (l.take i) x) ∧ pth l a = pth l (hgP (l.take i) x).on ++ [((hgP (l.take i) x).right, a)] ∧ ((hgP (l.take i) x).on = (0, 0) ∨ hasI (l.take i) (hgP (l.take i) x).on = true) := by
  obtain ⟨x, hx, e⟩ := fnd_some hf
  obtain ⟨hk, hp⟩ := known_at h hx
  refine ⟨x, hx, e, hangs_at l hx, ?_, hgP_on hk⟩
  rw [e] at hp
  rw [hp, newP_eq, e]
  congr 1
  rcases hgP_on hk with e2 | e2
  · rw [e2, pth_none (has_root h 0), pth_none (has_root (known_take h i) 0)]
  · rw [pth_take h e2]
theorem has_take_of {l : List It} {i : Nat} {a : I2} (h : hasI (l.take i) a = true) : hasI l a = true := has_sub (fun x hx => List.mem_of_mem_take hx) h
theorem pth_length {l : List It} (h : knownI l = true) : ∀ a, (pth l a).length ≤ l.length := by
  refine snoc_ind (P := fun l => knownI l = true → ∀ a, (pth l a).length ≤ l.length) (fun _ a => by simp [pth, pOf, fnd]) (fun l x ih h a => ?_) l h
  rw [known_snoc, Bool.and_eq_true] at h
  obtain ⟨_, hno, _, _⟩ := knownX_spec h.2
  have ih' := ih h.1
  rw [List.length_append, List.length_singleton]
  cases hl : hasI l a with
  | true => rw [pth_old hl]; have := ih' a; omega
  | false =>
    by_cases he : iid x = a
    · subst he
      rw [pth_new hno, newP_eq, List.length_append, List.length_singleton]
      have := ih' (hgP l x).on
      omega
    · rw [pth_none (by rw [has_snoc, hl]; simpa using he)]
      simp
/-! the walk -/
def insI (a : I2) : List I2 → List I2
  | [] => [a]
  | b :: l => if ltI a b then a :: b :: l else b :: insI a l
def srtI (l : List I2) : List I2 := l.foldr insI []
theorem ins_mem {a x : I2} : ∀ {l : List I2}, x ∈ insI a l ↔ x = a ∨ x ∈ l
  | [] => by simp [insI]
  | b :: l => by
    rw [insI]
    split
    · simp
    · rw [List.mem_cons, ins_mem (l := l), List.mem_cons]
      constructor
      · rintro (h | h | h)
        · exact .inr (.inl h)
        · exact .inl h
        · exact .inr (.inr h)
      · rintro (h | h | h)
        · exact .inr (.inl h)
        · exact .inl h
        · exact .inr (.inr h)
theorem srt_mem {x : I2} : ∀ {l : List I2}, x ∈ srtI l ↔ x ∈ l
  | [] => by simp [srtI]
  | a :: l => by
    show x ∈ insI a (srtI l) ↔ _
    rw [ins_mem, srt_mem (l := l), List.mem_cons]
theorem ins_rise {a : I2} : ∀ {l : List I2}, l.Pairwise (fun x y => ltI x y = true) → a ∉ l → (insI a l).Pairwise (fun x y => ltI x y = true)
  | [], _, _ => by simp [insI]
  | b :: l, h, hn => by
    rw [insI]
    split
    · rename_i hab
      refine List.pairwise_cons.2 ⟨fun y hy => ?_, h⟩
      rcases List.mem_cons.1 hy with e | hy
      · subst e; exact hab
      · exact ltI_trans hab ((List.pairwise_cons.1 h).1 y hy)
    · rename_i hab
      have hba : ltI b a = true := by
        rcases ltI_total (a := a) (b := b) (fun e => hn (by rw [e]; exact List.mem_cons_self ..)) with h1 | h1
        · exact absurd h1 hab
        · exact h1
      refine List.pairwise_cons.2 ⟨fun y hy => ?_, ins_rise (List.pairwise_cons.1 h).2 (fun e => hn (List.mem_cons_of_mem _ e))⟩
      rcases ins_mem.1 hy with e | hy
      · subst e; exact hba
      · exact (List.pairwise_cons.1 h).1 y hy
theorem srt_rise : ∀ {l : List I2}, l.Nodup → (srtI l).Pairwise (fun x y => ltI x y = true)
  | [], _ => by simp [srtI]
  | a :: l, h => by
    rw [List.nodup_cons] at h
    exact ins_rise (srt_rise h.2) (fun e => h.1 (srt_mem.1 e))
def kidsI (l : List It) (hs : List Hg) (h : Hg) : List I2 := ((l.zip hs).filter fun p => decide (p.2.on = h.on ∧ p.2.right = h.right)).map fun p => iid p.1
def walkS (l : List It) (hs : List Hg) : Nat → Hg → List I2
  | 0, _ => []
  | n + 1, h => (srtI (kidsI l hs h)).flatMap fun a => walkS l hs n ⟨a, false⟩ ++ a :: walkS l hs n ⟨a, true⟩
theorem kids_mem {l : List It} (h : knownI l = true) {g : Hg} {c : I2} (hg : g.on = (0, 0) ∨ hasI l g.on = true) : c ∈ kidsI l (hangsP l) g ↔ hasI l c = true ∧ pth l c = pth l g.on ++ [(g.right, c)] := by
  have hzip : ∀ p : It × Hg, p ∈ l.zip (hangsP l) ↔ ∃ i : Nat, l[i]? = some p.1 ∧ (hangsP l)[i]? = some p.2 := by
    intro p
    rw [List.mem_iff_getElem?]
    constructor
    · rintro ⟨i, hi⟩
      rw [List.getElem?_zip_eq_some] at hi
      exact ⟨i, hi⟩
    · rintro ⟨i, hi⟩
      exact ⟨i, List.getElem?_zip_eq_some.2 hi⟩
  have hfx : ∀ {i : Nat} {x : It}, l[i]? = some x → fnd l (iid x) = some i := by
    intro i x hx
    obtain ⟨hk, _⟩ := known_at h hx
    obtain ⟨_, hno, _, _⟩ := knownX_spec hk
    obtain ⟨j, hj⟩ := fnd_has (has_iffI.2 ⟨x, List.mem_of_getElem? hx, rfl⟩)
    obtain ⟨y, hy, e⟩ := fnd_some hj
    obtain ⟨hk2, _⟩ := known_at h hy
    obtain ⟨_, hno2, _, _⟩ := knownX_spec hk2
    rcases Nat.lt_trichotomy i j with hij | hij | hij
    · exfalso
      have : hasI (l.take j) (iid y) = true := has_iffI.2 ⟨x, List.mem_of_getElem? (i := i) (by rw [List.getElem?_take, if_pos hij]; exact hx), e.symm⟩
      rw [hno2] at this; cases this
    · rw [hij]; exact hj
    · exfalso
      have : hasI (l.take i) (iid x) = true := has_iffI.2 ⟨y, List.mem_of_getElem? (i := j) (by rw [List.getElem?_take, if_pos hij]; exact hy), e⟩
      rw [hno] at this; cases this
  unfold kidsI
  rw [List.mem_map]
  constructor
  · rintro ⟨p, hp, e⟩
    rw [List.mem_filter, hzip, decide_eq_true_eq] at hp
    obtain ⟨⟨i, hi, hhi⟩, ho, hr⟩ := hp
    have hin : hasI l c = true := has_iffI.2 ⟨p.1, List.mem_of_getElem? hi, e⟩
    refine ⟨hin, ?_⟩
    have hf := hfx hi
    rw [e] at hf
    obtain ⟨x, hx, _, hh, hpt, _⟩ := pth_by h hf
    rw [hhi] at hh
    injection hh with hh
    rw [hpt, ← hh, ho, hr]
  · rintro ⟨hin, hpt⟩
    obtain ⟨i, hf⟩ := fnd_has hin
    obtain ⟨x, hx, e, hh, hpt2, hon⟩ := pth_by h hf
    refine ⟨(x, hgP (l.take i) x), ?_, e⟩
    rw [List.mem_filter, hzip, decide_eq_true_eq]
    rw [hpt2] at hpt
    have hl := List.append_inj' hpt rfl
    have hr : (hgP (l.take i) x).right = g.right := by have := hl.2; simp at this; exact this
    refine ⟨⟨i, hx, hh⟩, ?_, hr⟩
    rcases hon with e1 | e1
    · rcases hg with e2 | e2
      · rw [e1, e2]
      · have h3 := hl.1
        rw [e1, pth_none (has_root h 0)] at h3
        obtain ⟨s, q, e4, _⟩ := pth_ends h _ e2
        rw [e4] at h3
        simp at h3
    · have e1' := has_take_of e1
      rcases hg with e2 | e2
      · have h3 := hl.1
        rw [e2, pth_none (has_root h 0)] at h3
        obtain ⟨s, q, e4, _⟩ := pth_ends h _ e1'
        rw [e4] at h3
        simp at h3
      · exact pth_inj h e1' e2 hl.1
theorem pth_nodup {l : List It} (h : knownI l = true) : ∀ a, (pth l a).Pairwise (fun x y => x.2 ≠ y.2) := by
  refine snoc_ind (P := fun l => knownI l = true → ∀ a, (pth l a).Pairwise (fun x y => x.2 ≠ y.2)) (fun _ a => by simp [pth, pOf, fnd]) (fun l x ih h a => ?_) l h
  rw [known_snoc, Bool.and_eq_true] at h
  obtain ⟨_, hno, _, _⟩ := knownX_spec h.2
  cases hl : hasI l a with
  | true => rw [pth_old hl]; exact ih h.1 a
  | false =>
    by_cases he : iid x = a
    · subst he
      rw [pth_new hno, newP_eq, List.pairwise_append]
      refine ⟨ih h.1 _, by simp, fun t ht u hu => ?_⟩
      rw [List.mem_singleton] at hu
      subst hu
      intro e
      have hin : hasI l t.2 = true := by
        rcases hgP_on h.2 with e1 | e1
        · rw [e1, pth_none (has_root h.1 0)] at ht; cases ht
        · obtain ⟨s, p, e2, hp⟩ := pth_ends h.1 _ e1
          rw [e2] at ht
          rcases List.mem_append.1 ht with ht | ht
          · exact (hp t ht).1
          · rw [List.mem_singleton] at ht; subst ht; exact e1
      rw [e, hno] at hin; cases hin
    · rw [pth_none (by rw [has_snoc, hl]; simpa using he)]
      exact List.Pairwise.nil
theorem pth_part {l : List It} (h : knownI l = true) {a : I2} (ha : hasI l a = true) {P r : Pth} {s : Bool} {c : I2} (e : pth l a = P ++ (s, c) :: r) : hasI l c = true ∧ pth l c = P ++ [(s, c)] := by
  obtain ⟨s1, p1, e1, hp⟩ := pth_ends h a ha
  rcases List.eq_nil_or_concat r with hr | ⟨r', z, hr⟩
  · subst hr
    rw [e1] at e
    have hl := List.append_inj' e rfl
    have hc : s1 = s ∧ a = c := by have := hl.2; simpa using this
    rw [← hc.2]
    refine ⟨ha, ?_⟩
    rw [e1, hl.1, hc.1]
  · subst hr
    rw [List.concat_eq_append] at e
    have ht : (s, c) ∈ (pth l a).dropLast := by
      rw [e, show P ++ (s, c) :: (r' ++ [z]) = (P ++ (s, c) :: r') ++ [z] by simp, List.dropLast_concat]
      exact List.mem_append_right _ (List.mem_cons_self ..)
    have hin : hasI l c = true := by rw [e1, List.dropLast_concat] at ht; exact (hp _ ht).1
    refine ⟨hin, ?_⟩
    obtain ⟨s2, c2, r2, e2⟩ := pth_anc h a ha _ ht
    obtain ⟨s3, p3, e3, hp3⟩ := pth_ends h c hin
    -- both are the beginning that ends in c: c stands once on the path
    simp only at e2
    rw [e3] at e2
    rw [e1] at e2
    have hn : ∀ t ∈ p1, t.2 ≠ a := fun t ht => (hp t ht).2
    rw [e] at e1
    -- lengths: c stands at P.length, and at p3.length
    have key : ∀ (x y : Pth) (u v : Pth) (s t : Bool), x ++ (s, c) :: u = y ++ (t, c) :: v → (∀ w ∈ x, w.2 ≠ c) → (∀ w ∈ y, w.2 ≠ c) → x = y ∧ s = t := by
      intro x
      induction x with
      | nil =>
        intro y u v s t hxy _ hy
        cases y with
        | nil => simp at hxy; exact ⟨rfl, hxy.1⟩
        | cons w y =>
          simp at hxy
          exact absurd (by rw [← hxy.1]) (hy w (List.mem_cons_self ..))
      | cons w x ih =>
        intro y u v s t hxy hx hy
        cases y with
        | nil =>
          simp at hxy
          exact absurd (by rw [hxy.1]) (hx w (List.mem_cons_self ..))
        | cons w' y =>
          simp at hxy
          obtain ⟨h1, h2⟩ := ih y u v s t hxy.2 (fun z hz => hx z (List.mem_cons_of_mem _ hz)) (fun z hz => hy z (List.mem_cons_of_mem _ hz))
          exact ⟨by rw [hxy.1, h1], h2⟩
    have hP : ∀ w ∈ P, w.2 ≠ c := by
      intro w hw e4
      -- w ends in c, on the way to (s, c): its path would be shorter and longer
      obtain ⟨P1, P2, e5⟩ := List.append_of_mem hw
      have hw2 : w = (w.1, c) := by rw [← e4]
      have ht1 : w ∈ (pth l a).dropLast := by
        rw [e, show P ++ (s, c) :: (r' ++ [z]) = (P ++ (s, c) :: r') ++ [z] by simp, List.dropLast_concat]
        exact List.mem_append_left _ hw
      have hd : (pth l a).Pairwise (fun x y => x.2 ≠ y.2) := pth_nodup h a
      rw [e] at hd
      exact (List.pairwise_append.1 hd).2.2 w hw (s, c) (List.mem_cons_self ..) e4
    have hp3' : ∀ w ∈ p3, w.2 ≠ c := fun w hw => (hp3 w hw).2
    have e6 : P ++ (s, c) :: (r' ++ [z]) = p3 ++ (s3, c) :: ((s2, c2) :: r2) := by rw [e1, e2]; simp
    obtain ⟨h1, h2⟩ := key P p3 _ _ s s3 e6 hP hp3'
    rw [e3, h1, h2]

theorem ids_nodup {l : List It} (h : knownI l = true) : (l.map iid).Nodup := by
  refine snoc_ind (P := fun l => knownI l = true → (l.map iid).Nodup) (fun _ => by simp) (fun l x ih h => ?_) l h
  rw [known_snoc, Bool.and_eq_true] at h
  obtain ⟨_, hno, _, _⟩ := knownX_spec h.2
  rw [List.map_append, List.nodup_append]
  refine ⟨ih h.1, by simp, fun a ha b hb e => ?_⟩
  have hb2 : b = iid x := by simpa using hb
  obtain ⟨y, hy, e2⟩ := List.mem_map.1 ha
  have : hasI l (iid x) = true := has_iffI.2 ⟨y, hy, by rw [e2, e, hb2]⟩
  rw [hno] at this; cases this
theorem kids_nodup {l : List It} (h : knownI l = true) (g : Hg) : (kidsI l (hangsP l) g).Nodup := by
  have h1 := ids_nodup h
  have h2 : (l.zip (hangsP l)).map (fun p => iid p.1) = l.map iid := by
    have h3 : (l.zip (hangsP l)).map Prod.fst = l := List.map_fst_zip (by rw [hangs_len]; exact Nat.le_refl _)
    have h4 : (l.zip (hangsP l)).map (fun p => iid p.1) = ((l.zip (hangsP l)).map Prod.fst).map iid := by rw [List.map_map]; rfl
    rw [h4, h3]
  rw [← h2] at h1
  exact (List.filter_sublist.map _).nodup h1
theorem walk_is {l : List It} (h : knownI l = true) : ∀ (n : Nat) (g : Hg), (g.on = (0, 0) ∨ hasI l g.on = true) →
    (∀ a, a ∈ walkS l (hangsP l) n g ↔ hasI l a = true ∧ ∃ c r, pth l a = pth l g.on ++ (g.right, c) :: r ∧ r.length < n) ∧ (walkS l (hangsP l) n g).Pairwise (ltO l)
  | 0, g, hg => by
    refine ⟨fun a => ?_, List.Pairwise.nil⟩
    constructor
    · intro ha; cases ha
    · rintro ⟨_, c, r, _, hr⟩; omega
  | n + 1, g, hg => by
    have hk : ∀ c, c ∈ srtI (kidsI l (hangsP l) g) ↔ hasI l c = true ∧ pth l c = pth l g.on ++ [(g.right, c)] := fun c => by rw [srt_mem, kids_mem h hg]
    have hin : ∀ c a, c ∈ srtI (kidsI l (hangsP l) g) → a ∈ (walkS l (hangsP l) n ⟨c, false⟩ ++ c :: walkS l (hangsP l) n ⟨c, true⟩) → hasI l a = true ∧ ∃ r, pth l a = pth l g.on ++ (g.right, c) :: r ∧ r.length < n + 1 := by
      intro c a hc ha
      obtain ⟨hcl, hcp⟩ := (hk c).1 hc
      rcases List.mem_append.1 ha with ha | ha
      · obtain ⟨h1, c', r, e, hr⟩ := ((walk_is h n ⟨c, false⟩ (.inr hcl)).1 a).1 ha
        exact ⟨h1, (false, c') :: r, by rw [e, hcp]; simp, by simp; omega⟩
      · rcases List.mem_cons.1 ha with e | ha
        · subst e
          exact ⟨hcl, [], hcp, by simp⟩
        · obtain ⟨h1, c', r, e, hr⟩ := ((walk_is h n ⟨c, true⟩ (.inr hcl)).1 a).1 ha
          exact ⟨h1, (true, c') :: r, by rw [e, hcp]; simp, by simp; omega⟩
    constructor
    · intro a
      rw [walkS, List.mem_flatMap]
      constructor
      · rintro ⟨c, hc, ha⟩
        obtain ⟨h1, r, h2, h3⟩ := hin c a hc ha
        exact ⟨h1, c, r, h2, h3⟩
      · rintro ⟨ha, c, r, e, hr⟩
        obtain ⟨hcl, hcp⟩ := pth_part h ha e
        refine ⟨c, (hk c).2 ⟨hcl, hcp⟩, ?_⟩
        cases r with
        | nil =>
          have : a = c := pth_inj h ha hcl (by rw [e, hcp])
          rw [this]
          exact List.mem_append_right _ (List.mem_cons_self ..)
        | cons z r =>
          obtain ⟨t, c'⟩ := z
          have e2 : pth l a = pth l c ++ (t, c') :: r := by rw [e, hcp]; simp
          have hr2 : r.length < n := by simp at hr; omega
          cases t with
          | false => exact List.mem_append_left _ (((walk_is h n ⟨c, false⟩ (.inr hcl)).1 a).2 ⟨ha, c', r, e2, hr2⟩)
          | true => exact List.mem_append_right _ (List.mem_cons_of_mem _ (((walk_is h n ⟨c, true⟩ (.inr hcl)).1 a).2 ⟨ha, c', r, e2, hr2⟩))
    · rw [walkS, List.pairwise_flatMap]
      constructor
      · intro c hc
        obtain ⟨hcl, hcp⟩ := (hk c).1 hc
        have hlo : ∀ x ∈ walkS l (hangsP l) n ⟨c, false⟩, ltO l x c := fun x hx => by
          obtain ⟨_, c', r, e, _⟩ := ((walk_is h n ⟨c, false⟩ (.inr hcl)).1 x).1 hx
          unfold ltO
          rw [e]
          exact ltP_left _ _ _
        have hhi : ∀ y ∈ walkS l (hangsP l) n ⟨c, true⟩, ltO l c y := fun y hy => by
          obtain ⟨_, c', r, e, _⟩ := ((walk_is h n ⟨c, true⟩ (.inr hcl)).1 y).1 hy
          unfold ltO
          rw [e]
          exact ltP_right _ _ _
        rw [List.pairwise_append]
        refine ⟨(walk_is h n ⟨c, false⟩ (.inr hcl)).2, List.pairwise_cons.2 ⟨hhi, (walk_is h n ⟨c, true⟩ (.inr hcl)).2⟩, fun x hx y hy => ?_⟩
        rcases List.mem_cons.1 hy with e | hy
        · subst e; exact hlo x hx
        · exact ltP_trans (hlo x hx) (hhi y hy)
      · refine (srt_rise (kids_nodup h g)).imp_of_mem fun {c d} hc hd hcd x hx y hy => ?_
        obtain ⟨_, u, e1, _⟩ := hin c x hc hx
        obtain ⟨_, v, e2, _⟩ := hin d y hd hy
        unfold ltO
        rw [e1, e2, ltP_pre, ltP, if_pos rfl]
        have hne : c ≠ d := fun e => by
          subst e
          have := ltI_asymm hcd
          rw [hcd] at this; cases this
        rw [if_neg hne]
        exact hcd
theorem walk_ord {l : List It} (h : knownI l = true) (n : Nat) (hn : l.length ≤ n) : IsOrd l (walkS l (hangsP l) n ⟨(0, 0), true⟩) := by
  obtain ⟨h1, h2⟩ := walk_is h n ⟨(0, 0), true⟩ (.inl rfl)
  refine ⟨fun a => ?_, h2⟩
  rw [h1]
  refine ⟨fun k => k.1, fun ha => ⟨ha, ?_⟩⟩
  rw [pth_none (has_root h 0)]
  obtain ⟨s, p, e, _⟩ := pth_ends h a ha
  have hne : pth l a ≠ [] := by rw [e]; simp
  cases hp : pth l a with
  | nil => exact absurd hp hne
  | cons z r =>
    obtain ⟨t, c⟩ := z
    have hlen := pth_length h a
    rw [hp] at hlen
    simp at hlen
    refine ⟨c, r, ?_, by omega⟩
    -- the first step goes to the right
    obtain ⟨hcl, hcp⟩ := pth_part h ha (P := []) (by rw [hp]; rfl)
    obtain ⟨i, hi⟩ := fnd_has hcl
    obtain ⟨x, hx, hxe, _, hpt, hon⟩ := pth_by h hi
    rw [hcp] at hpt
    have ht : t = true := by
      have h5 := List.append_inj' hpt rfl
      have h6 : (hgP (l.take i) x).on = (0, 0) := by
        rcases hon with e1 | e1
        · exact e1
        · obtain ⟨s2, p2, e2, _⟩ := pth_ends h _ (has_take_of e1)
          have h7 := h5.1
          rw [e2] at h7
          simp at h7
      have h8 : t = (hgP (l.take i) x).right := by have := h5.2; simpa using this
      rw [h8]
      unfold hgP plcP at h6 ⊢
      split
      · rename_i hb
        rw [if_pos hb] at h6
        have : x.rc = 0 := congrArg Prod.fst h6
        exact absurd this hb.1
      · rfl
    rw [ht]
    rfl
theorem ord_len {l : List It} (h : knownI l = true) {o : List I2} (ho : IsOrd l o) : o.length = l.length := by
  have h1 : o.Perm (l.map iid) := by
    rw [List.perm_ext_iff_of_nodup (nodup_of_rise ho.rise) (ids_nodup h)]
    intro a
    rw [ho.all, List.mem_map]
    exact has_iffI
  rw [h1.length_eq, List.length_map]

end Go.Proofs.Ytmpomammieenjaa
