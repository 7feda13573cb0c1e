/-
  Where a new item stands among the others; those by which layer 8 tells its place, in plain mathematics: no memory; no claim stands here.
-/
import Derived.Test.YtmpomammieenjaaTBtw
import Derived.Test.YtmpomammieenjaaLMath
import Derived.Test.YtmpomammieenjaaUMth
namespace Go.Proofs.Ytmpomammieenjaa
set_option linter.unusedVariables false

theorem ltP_before : ∀ {p q : Pth}, ltP q p = true → (∀ r, q ≠ p ++ r) → ∀ z, ltP q (p ++ z) = true
  | [], q, h, hn, z => absurd rfl (hn q)
  | (s, a) :: p, [], h, hn, z => h
  | (s, a) :: p, (t, b) :: q, h, hn, z => by
    rw [List.cons_append, ltP]
    rw [ltP] at h
    by_cases hs : t = s
    · subst hs
      rw [if_pos rfl] at h ⊢
      by_cases ha : b = a
      · subst ha
        rw [if_pos rfl] at h ⊢
        exact ltP_before h (fun r e => hn r (by rw [e]; rfl)) z
      · rw [if_neg ha] at h ⊢; exact h
    · rw [if_neg hs] at h ⊢; exact h

def hungP (l : List It) (a b : I2) : Option I2 :=
  if (pth l b).length < (pth l a).length ∧ (pth l a).take (pth l b).length = pth l b then ((pth l a)[(pth l b).length]?).map (·.2) else none
theorem hung_some {l : List It} {a b : I2} {s : Bool} {c : I2} {r : Pth} (e : pth l a = pth l b ++ (s, c) :: r) : hungP l a b = some c := by
  unfold hungP
  rw [if_pos ⟨by rw [e]; simp, by rw [e]; simp⟩, e]
  simp
theorem hung_none {l : List It} {a b : I2} (h : ∀ s c r, pth l a ≠ pth l b ++ (s, c) :: r) : hungP l a b = none := by
  unfold hungP
  rw [if_neg]
  rintro ⟨h1, h2⟩
  obtain ⟨x, r, e⟩ : ∃ x r, (pth l a).drop (pth l b).length = x :: r := by
    cases hd : (pth l a).drop (pth l b).length with
    | nil => rw [List.drop_eq_nil_iff] at hd; omega
    | cons x r => exact ⟨x, r, rfl⟩
  refine h x.1 x.2 r ?_
  have := List.take_append_drop (pth l b).length (pth l a)
  rw [h2, e] at this
  exact this.symm
theorem hung_or (l : List It) (a b : I2) : (∃ s c r, pth l a = pth l b ++ (s, c) :: r ∧ hungP l a b = some c) ∨ ((∀ s c r, pth l a ≠ pth l b ++ (s, c) :: r) ∧ hungP l a b = none) := by
  by_cases h : ∃ s c r, pth l a = pth l b ++ (s, c) :: r
  · obtain ⟨s, c, r, e⟩ := h
    exact .inl ⟨s, c, r, e, hung_some e⟩
  · have h' : ∀ s c r, pth l a ≠ pth l b ++ (s, c) :: r := fun s c r e => h ⟨s, c, r, e⟩
    exact .inr ⟨h', hung_none h'⟩
theorem root_right {l : List It} (h : knownI l = true) {a : I2} (ha : hasI l a = true) {s : Bool} {c : I2} {r : Pth} (e : pth l a = (s, c) :: r) : s = true := by
  obtain ⟨hc, e2⟩ := pth_part h ha (P := []) e
  obtain ⟨i, hf⟩ := fnd_has hc
  obtain ⟨x, hx, hxc, _, e3, hon⟩ := pth_by h hf
  rw [e2] at e3
  have e4 : pth l (hgP (l.take i) x).on = [] ∧ (hgP (l.take i) x).right = s := by
    rcases hp : pth l (hgP (l.take i) x).on with _ | ⟨y, t⟩
    · rw [hp] at e3; simp at e3; exact ⟨rfl, e3.symm⟩
    · rw [hp] at e3; simp at e3
  rw [← e4.2]
  have h0 : (hgP (l.take i) x).on = (0, 0) := by
    rcases hon with h0 | h0
    · exact h0
    · obtain ⟨s1, p1, e5, _⟩ := pth_ends h _ (has_take_of h0)
      rw [e4.1] at e5
      simp at e5
  obtain ⟨hkx, _⟩ := known_at h hx
  unfold hgP plcP at h0 ⊢
  split
  · rename_i hcc
    rw [if_pos hcc] at h0
    have : x.rc = 0 := congrArg Prod.fst h0
    exact absurd this hcc.1
  · rfl

def newQ (l : List It) (x : It) : Pth := pth l (hgP l x).on ++ [((hgP l x).right, iid x)]
theorem right_pred {l : List It} (h : knownI l = true) {x : It} (hx : knownX l x = true) (hr : (hgP l x).right = true) {a : I2} (ha : hasI l a = true) (hb : (hgP l x).on = (0, 0) ∨ ltP (pth l (hgP l x).on) (pth l a) = true) :
    (match hungP l a (hgP l x).on with | none => true | some c => ltI (iid x) c) = ltP (newQ l x) (pth l a) := by
  unfold newQ
  rw [hr]
  have hno := (knownX_spec hx).2.1
  obtain ⟨s0, p0, e0, _⟩ := pth_ends h a ha
  have hb' : ltP (pth l (hgP l x).on) (pth l a) = true := by
    rcases hb with hb | hb
    · rw [hb, pth_none (has_root h 0)]
      rcases hp : pth l a with _ | ⟨⟨s, c⟩, r⟩
      · rw [hp] at e0; simp at e0
      · show s = true
        exact root_right h ha hp
    · exact hb
  rcases hung_or l a (hgP l x).on with ⟨s, c, r, e, eh⟩ | ⟨hn, eh⟩
  · rw [eh]
    show ltI (iid x) c = _
    rw [e] at hb' ⊢
    have hs : s = true := by
      have := ltP_pre (pth l (hgP l x).on) [] ((s, c) :: r)
      rw [List.append_nil] at this
      rw [this] at hb'
      exact hb'
    subst hs
    rw [ltP_pre, ltP, if_pos rfl]
    have hc : hasI l c = true := (pth_part h ha e).1
    rw [if_neg (fun e => by rw [e, hc] at hno; cases hno)]
  · rw [eh]
    show true = _
    refine (ltP_beyond hb' (fun r e => ?_) _).symm
    rcases r with _ | ⟨⟨s, c⟩, r⟩
    · rw [List.append_nil] at e
      rw [e, ltP_irrefl] at hb'; cases hb'
    · exact hn s c r e
theorem left_pred {l : List It} (h : knownI l = true) {x : It} (hx : knownX l x = true) (hr : (hgP l x).right = false) {a : I2} (ha : hasI l a = true) (hb : ltP (pth l a) (pth l (hgP l x).on) = true) :
    (match hungP l a (hgP l x).on with | none => false | some c => ltI (iid x) c) = ltP (newQ l x) (pth l a) := by
  unfold newQ
  rw [hr]
  have hno := (knownX_spec hx).2.1
  rcases hung_or l a (hgP l x).on with ⟨s, c, r, e, eh⟩ | ⟨hn, eh⟩
  · rw [eh]
    show ltI (iid x) c = _
    rw [e] at hb ⊢
    have hs : s = false := by
      have := ltP_pre (pth l (hgP l x).on) ((s, c) :: r) []
      rw [List.append_nil] at this
      rw [this] at hb
      have hb : (!s) = true := hb
      cases s
      · rfl
      · cases hb
    subst hs
    rw [ltP_pre, ltP, if_pos rfl]
    have hc : hasI l c = true := (pth_part h ha e).1
    rw [if_neg (fun e => by rw [e, hc] at hno; cases hno)]
  · rw [eh]
    show false = _
    refine (ltP_asymm (ltP_before hb (fun r e => ?_) _)).symm
    rcases r with _ | ⟨⟨s, c⟩, r⟩
    · rw [List.append_nil] at e
      rw [e, ltP_irrefl] at hb; cases hb
    · exact hn s c r e

def PlcOk (l : List It) (x : It) (p : Nat) : Prop := p ≤ (ordL l).length ∧ ∀ j a, (ordL l)[j]? = some a → (ltP (newQ l x) (pth l a) = true ↔ p ≤ j)
theorem ord_has {l : List It} (h : knownI l = true) {j : Nat} {a : I2} (ha : (ordL l)[j]? = some a) : hasI l a = true := ((ordL_is h).all a).1 (List.mem_of_getElem? ha)
theorem ord_lt {l : List It} (h : knownI l = true) {i j : Nat} {a b : I2} (ha : (ordL l)[i]? = some a) (hb : (ordL l)[j]? = some b) (hij : i < j) : ltP (pth l a) (pth l b) = true := by
  obtain ⟨h1, e1⟩ := List.getElem?_eq_some_iff.1 ha
  obtain ⟨h2, e2⟩ := List.getElem?_eq_some_iff.1 hb
  have := List.pairwise_iff_getElem.1 (ordL_is h).rise i j h1 h2 hij
  rw [e1, e2] at this
  exact this
theorem pred_mono {l : List It} (h : knownI l = true) (x : It) {i j : Nat} {a b : I2} (ha : (ordL l)[i]? = some a) (hb : (ordL l)[j]? = some b) (hij : i ≤ j) (hp : ltP (newQ l x) (pth l a) = true) : ltP (newQ l x) (pth l b) = true := by
  rcases Nat.eq_or_lt_of_le hij with e | e
  · subst e
    rw [ha] at hb
    injection hb with hb
    subst hb
    exact hp
  · exact ltP_trans hp (ord_lt h ha hb e)
theorem place_ord {l : List It} {x : It} (h : knownI (l ++ [x]) = true) {p : Nat} (hp : PlcOk l x p) : ordL (l ++ [x]) = (ordL l).take p ++ iid x :: (ordL l).drop p := by
  have h' := h
  rw [known_snoc, Bool.and_eq_true] at h'
  obtain ⟨hl, hx⟩ := h'
  have hno := (knownX_spec hx).2.1
  obtain ⟨hp1, hp2⟩ := hp
  refine (ord_unique (ordL_is h) ⟨fun a => ?_, ?_⟩)
  · rw [has_snoc, Bool.or_eq_true, ← (ordL_is hl).all, decide_eq_true_eq]
    constructor
    · intro ha
      rcases List.mem_append.1 ha with ha | ha
      · exact .inl (List.mem_of_mem_take ha)
      · rcases List.mem_cons.1 ha with e | ha
        · exact .inr e.symm
        · exact .inl (List.mem_of_mem_drop ha)
    · rintro (ha | e)
      · rw [← List.take_append_drop p (ordL l)] at ha
        rcases List.mem_append.1 ha with ha | ha
        · exact List.mem_append_left _ ha
        · exact List.mem_append_right _ (List.mem_cons_of_mem _ ha)
      · rw [e]
        exact List.mem_append_right _ (List.mem_cons_self ..)
  · have hnew : pth (l ++ [x]) (iid x) = newQ l x := by rw [pth_new hno, newP_eq]; rfl
    have hold : ∀ a, a ∈ ordL l → pth (l ++ [x]) a = pth l a := fun a ha => pth_old (((ordL_is hl).all a).1 ha)
    have hrise : (ordL l).Pairwise (ltO (l ++ [x])) := by
      refine List.Pairwise.imp_of_mem ?_ (ordL_is hl).rise
      intro a b ha hb hab
      unfold ltO at hab ⊢
      rw [hold a ha, hold b hb]
      exact hab
    have hA : ∀ a ∈ (ordL l).take p, ltO (l ++ [x]) a (iid x) := by
      intro a ha
      obtain ⟨j, hj⟩ := List.getElem?_of_mem ha
      have hjp : j < p := by
        have := lt_of_get hj
        rw [List.length_take] at this
        omega
      rw [List.getElem?_take_of_lt hjp] at hj
      unfold ltO
      rw [hnew, hold a (List.mem_of_getElem? hj)]
      have hf : ltP (newQ l x) (pth l a) ≠ true := fun e => by have := (hp2 j a hj).1 e; omega
      have hne : pth l a ≠ newQ l x := fun e => by
        have h1 := ord_has hl hj
        obtain ⟨s, q, e2, _⟩ := pth_ends hl a h1
        rw [e2] at e
        unfold newQ at e
        have := (List.append_inj' e rfl).2
        simp at this
        rw [this.2, hno] at h1
        cases h1
      rcases ltP_total hne with e | e
      · exact e
      · exact absurd e hf
    have hB : ∀ a ∈ (ordL l).drop p, ltO (l ++ [x]) (iid x) a := by
      intro a ha
      obtain ⟨j, hj⟩ := List.getElem?_of_mem ha
      rw [List.getElem?_drop] at hj
      unfold ltO
      rw [hnew, hold a (List.mem_of_getElem? hj)]
      exact (hp2 _ a hj).2 (by omega)
    have hAB := List.pairwise_append.1 (by rw [List.take_append_drop]; exact hrise : ((ordL l).take p ++ (ordL l).drop p).Pairwise (ltO (l ++ [x])))
    refine List.pairwise_append.2 ⟨hAB.1, List.pairwise_cons.2 ⟨hB, hAB.2.1⟩, ?_⟩
    intro a ha b hb
    rcases List.mem_cons.1 hb with e | hb
    · subst e; exact hA a ha
    · exact hAB.2.2 a ha b hb

theorem ent_put {l : List It} {x : It} (h : knownI (l ++ [x]) = true) {p : Nat} (hp : PlcOk l x p) {g : List I2} (hg : ∀ a ∈ g, hasI l a = true) (gone : Bool) :
    putE (entL l g) p ⟨x.c, x.k, x.ch, gone⟩ = entL (l ++ [x]) (if gone then g ++ [(x.c, x.k)] else g) := by
  have h' := h
  rw [known_snoc, Bool.and_eq_true] at h'
  obtain ⟨hl, hx⟩ := h'
  have hno := (knownX_spec hx).2.1
  unfold entL putE
  rw [place_ord h hp, List.map_append, List.map_cons, List.map_take, List.map_drop, List.append_assoc]
  have hone : ∀ a, hasI l a = true → entA (l ++ [x]) (if gone then g ++ [(x.c, x.k)] else g) a = entA l g a := by
    intro a ha
    obtain ⟨y, hy, rfl⟩ := has_iffI.1 ha
    unfold entA
    rw [chI_mem h (List.mem_append_left _ hy), chI_mem hl hy]
    have : goneI (if gone then g ++ [(x.c, x.k)] else g) (iid y) = goneI g (iid y) := by
      cases gone
      · rfl
      · show goneI (g ++ [(x.c, x.k)]) (iid y) = _
        have hne : ¬ (iid x = iid y) := fun e => by rw [← e, hno] at ha; cases ha
        have hne' : ¬ ((x.c, x.k) = iid y) := hne
        unfold goneI
        rw [List.any_append, List.any_cons, List.any_nil, decide_eq_false hne', Bool.or_false, Bool.or_false]
    rw [this]
  have h1 : (List.map (entA (l ++ [x]) (if gone then g ++ [(x.c, x.k)] else g)) (ordL l)) = List.map (entA l g) (ordL l) :=
    List.map_congr_left fun a ha => hone a (((ordL_is hl).all a).1 ha)
  have h2 : entA (l ++ [x]) (if gone then g ++ [(x.c, x.k)] else g) (iid x) = ⟨x.c, x.k, x.ch, gone⟩ := by
    unfold entA
    rw [chI_mem h (List.mem_append_right _ (List.mem_singleton.2 rfl))]
    have : goneI (if gone then g ++ [(x.c, x.k)] else g) (iid x) = gone := by
      cases gone
      · show goneI g (iid x) = false
        cases hgi : goneI g (iid x) with
        | false => rfl
        | true => have := hg _ (goneI_iff.1 hgi); rw [hno] at this; cases this
      · exact goneI_iff.2 (List.mem_append_right _ (List.mem_singleton.2 rfl))
    rw [this]
    rfl
  rw [h1, h2]
  rfl
theorem ent_hide (l : List It) (g : List I2) (c k : Int) : hideE (entL l g) c k = entL l (g ++ [(c, k)]) := by
  unfold hideE entL
  rw [List.map_map]
  refine List.map_congr_left fun a ha => ?_
  show (if sameE (entA l g a) c k then { entA l g a with g := true } else entA l g a) = entA l (g ++ [(c, k)]) a
  by_cases e : a = (c, k)
  · subst e
    rw [if_pos (by unfold sameE entA; simp)]
    unfold entA
    have : goneI (g ++ [(c, k)]) (c, k) = true := goneI_iff.2 (by simp)
    rw [this]
  · rw [if_neg (by
      unfold sameE entA
      rw [decide_eq_true_eq]
      rintro ⟨e1, e2⟩
      exact e (Prod.ext e1 e2))]
    unfold entA
    have hne : ¬ ((c, k) = a) := fun h => e h.symm
    have : goneI (g ++ [(c, k)]) a = goneI g a := by
      unfold goneI
      rw [List.any_append, List.any_cons, List.any_nil, decide_eq_false hne, Bool.or_false, Bool.or_false]
    rw [this]
theorem ent_find {l : List It} (g : List I2) {c k : Int} {q : Nat} (h : findE (entL l g) c k = some q) : (ordL l)[q]? = some (c, k) := by
  have hg : ∀ (o : List I2) (q : Nat), findE (o.map (entA l g)) c k = some q → o[q]? = some (c, k) := by
    intro o
    induction o with
    | nil => intro q h; cases h
    | cons a o ih =>
      intro q h
      rw [List.map_cons, findE] at h
      by_cases hs : sameE (entA l g a) c k = true
      · rw [if_pos hs] at h
        injection h with h
        subst h
        unfold sameE entA at hs
        obtain ⟨e1, e2⟩ := of_decide_eq_true hs
        show some a = _
        rw [show a = (c, k) from Prod.ext e1 e2]
      · rw [if_neg hs] at h
        cases hf : findE (o.map (entA l g)) c k with
        | none => rw [hf] at h; cases h
        | some j =>
          rw [hf] at h
          simp only [Option.map_some, Option.some.injEq] at h
          subst h
          rw [List.getElem?_cons_succ]
          exact ih j hf
  exact hg _ q h
theorem ent_at {l : List It} (g : List I2) {q : Nat} {a : I2} (h : (ordL l)[q]? = some a) : (entL l g)[q]? = some (entA l g a) := by
  unfold entL; rw [List.getElem?_map, h]; rfl
theorem ord_len' {l : List It} (h : knownI l = true) : (ordL l).length = l.length := ord_len h (ordL_is h)
theorem right_place {l : List It} (h : knownI l = true) {x : It} (hx : knownX l x = true) (hr : (hgP l x).right = true) {from' k : Nat} (hk : from' + k ≤ l.length)
    (hf : ((hgP l x).on = (0, 0) ∧ from' = 0) ∨ (∃ q, from' = q + 1 ∧ (ordL l)[q]? = some (hgP l x).on))
    (h1 : ∀ j a, j < k → (ordL l)[from' + j]? = some a → ltP (newQ l x) (pth l a) = false) (h2 : ∀ j a, k ≤ j → (ordL l)[from' + j]? = some a → ltP (newQ l x) (pth l a) = true) : PlcOk l x (from' + k) := by
  refine ⟨by rw [ord_len' h]; exact hk, fun j a ha => ?_⟩
  rcases Nat.lt_or_ge j from' with hj | hj
  · have hfa : ltP (newQ l x) (pth l a) = false := by
      rcases hf with ⟨_, e⟩ | ⟨q, e, hq⟩
      · omega
      · have hqq : ltP (pth l (hgP l x).on) (newQ l x) = true := by unfold newQ; rw [hr]; exact ltP_right _ _ _
        rcases Nat.eq_or_lt_of_le (show j ≤ q by omega) with e2 | e2
        · subst e2
          rw [ha] at hq
          injection hq with hq
          rw [hq]
          exact ltP_asymm hqq
        · exact ltP_asymm (ltP_trans (ord_lt h ha hq e2) hqq)
    rw [hfa]
    constructor
    · intro e; cases e
    · intro e; omega
  · obtain ⟨i, rfl⟩ : ∃ i, j = from' + i := ⟨j - from', by omega⟩
    rcases Nat.lt_or_ge i k with hi | hi
    · rw [h1 i a hi ha]
      constructor
      · intro e; cases e
      · intro e; omega
    · rw [h2 i a hi ha]
      constructor
      · intro _; omega
      · intro _; rfl
theorem left_place {l : List It} (h : knownI l = true) {x : It} (hx : knownX l x = true) (hr : (hgP l x).right = false) {q k : Nat} (hk : k ≤ q) (hq : (ordL l)[q]? = some (hgP l x).on)
    (h1 : ∀ j a, j < k → (ordL l)[j]? = some a → ltP (newQ l x) (pth l a) = false) (h2 : ∀ j a, k ≤ j → j < q → (ordL l)[j]? = some a → ltP (newQ l x) (pth l a) = true) : PlcOk l x k := by
  refine ⟨by have := lt_of_get hq; omega, fun j a ha => ?_⟩
  rcases Nat.lt_or_ge j k with hj | hj
  · rw [h1 j a hj ha]
    constructor
    · intro e; cases e
    · intro e; omega
  · have : ltP (newQ l x) (pth l a) = true := by
      rcases Nat.lt_or_ge j q with hjq | hjq
      · exact h2 j a hj hjq ha
      · have hqq : ltP (newQ l x) (pth l (hgP l x).on) = true := by unfold newQ; rw [hr]; exact ltP_left _ _ _
        rcases Nat.eq_or_lt_of_le hjq with e2 | e2
        · subst e2
          rw [ha] at hq
          injection hq with hq
          rw [hq]
          exact hqq
        · exact ltP_trans hqq (ord_lt h hq ha e2)
    rw [this]
    constructor
    · intro _; exact hj
    · intro _; rfl

/-! those by which layer 8 tells the same place as by all -/
def bare (a b : I2) : It := ⟨a.1, a.2, b.1, b.2, 0, 0, 0⟩
def nbs (l : List It) (x : It) : List It :=
  (if x.lc = 0 then [] else [bare (ilf x) (0, 0)]) ++
  (if x.rc = 0 ∨ irt x = ilf x then [] else [bare (irt x) (if (hungP l (irt x) (if x.lc = 0 then (0, 0) else ilf x)).isSome then ilf x else (0, 0))])
theorem hgP_st {l : List It} {x : It} (hr : x.rc = 0) : hgP l x = if x.lc = 0 then ⟨(0, 0), true⟩ else ⟨ilf x, true⟩ := by
  unfold hgP plcP
  rw [if_neg (fun h => h.1 hr)]
  by_cases h : x.lc = 0
  · rw [if_pos h, if_pos h]
  · rw [if_neg h, if_neg h]
theorem hgP_rt {l : List It} {x : It} (hr : x.rc ≠ 0) (hl : x.lc = 0) : hgP l x = ⟨irt x, false⟩ := by
  unfold hgP plcP
  rw [if_pos ⟨hr, by unfold blwP; rw [show (ilf x).1 = 0 from hl]; simp⟩]
theorem hgP_bo {l : List It} {x : It} (hr : x.rc ≠ 0) (hl : x.lc ≠ 0) : hgP l x = if blwP l (paths l) (irt x) (ilf x) = true then ⟨irt x, false⟩ else ⟨ilf x, true⟩ := by
  unfold hgP plcP
  by_cases h : blwP l (paths l) (irt x) (ilf x) = true
  · rw [if_pos ⟨hr, h⟩, if_pos h]
  · rw [if_neg (fun e => h e.2), if_neg h, if_neg hl]
theorem hung_is {l : List It} (h : knownI l = true) {a b : I2} (ha : hasI l a = true) (hb : hasI l b = true) : (hungP l a b).isSome = blwP l (paths l) a b := by
  rw [below_is h ha hb]
  unfold hungP
  by_cases hc : (pth l b).length < (pth l a).length ∧ (pth l a).take (pth l b).length = pth l b
  · rw [if_pos hc, decide_eq_true hc.1, decide_eq_true hc.2, List.getElem?_eq_getElem hc.1]
    rfl
  · rw [if_neg hc]
    rcases Decidable.not_and_iff_or_not.1 hc with e | e
    · rw [decide_eq_false e]; rfl
    · rw [decide_eq_false e, Bool.and_false]; rfl
theorem bare_one {a b : I2} (ha : a.1 ≠ 0) (hb : b.1 = 0) : knownI [bare a b] = true ∧ pth [bare a b] a = [(true, a)] := by
  have hx : knownX [] (bare a b) = true := by
    unfold knownX bare
    simp [ha, hb, hasI]
  have hk : knownI ([] ++ [bare a b]) = true := by rw [known_snoc, hx]; rfl
  have hs : hgP [] (bare a b) = ⟨(0, 0), true⟩ := by
    rw [hgP_st (show (bare a b).rc = 0 from rfl), if_pos (show (bare a b).lc = 0 from hb)]
  have hp := pth_new (knownX_spec hx).2.1
  rw [newP_eq, hs] at hp
  exact ⟨hk, hp⟩
theorem bare_two {a b d : I2} (ha : a.1 ≠ 0) (hb : b.1 ≠ 0) (hne : b ≠ a) (hd : d.1 = 0 ∨ d = a) : knownI [bare a (0, 0), bare b d] = true ∧ pth [bare a (0, 0), bare b d] a = [(true, a)] ∧ pth [bare a (0, 0), bare b d] b = if d.1 = 0 then [(true, b)] else [(true, a), (true, b)] := by
  obtain ⟨h1, h2⟩ := bare_one ha (show ((0, 0) : I2).1 = 0 from rfl)
  have hha : hasI [bare a (0, 0)] a = true := has_iffI.2 ⟨_, List.mem_cons_self .., rfl⟩
  have hx : knownX [bare a (0, 0)] (bare b d) = true := by
    unfold knownX
    have e1 : decide ((bare b d).c ≠ 0) = true := decide_eq_true hb
    have e2 : hasI [bare a (0, 0)] (iid (bare b d)) = false := by
      unfold hasI
      have : ¬ (iid (bare a (0, 0)) = iid (bare b d)) := fun e => hne (show b = a from e.symm)
      simp [this]
    have e3 : (decide ((bare b d).lc = 0) || hasI [bare a (0, 0)] (ilf (bare b d))) = true := by
      rcases hd with e | e
      · rw [decide_eq_true (show (bare b d).lc = 0 from e)]; rfl
      · rw [show ilf (bare b d) = a from e, hha, Bool.or_true]
    have e4 : decide ((bare b d).rc = 0) = true := rfl
    rw [e1, e2, e3, e4]; rfl
  have hk : knownI ([bare a (0, 0)] ++ [bare b d]) = true := by rw [known_snoc, h1, hx]; rfl
  have hp := pth_new (knownX_spec hx).2.1
  rw [newP_eq, hgP_st (show (bare b d).rc = 0 from rfl)] at hp
  refine ⟨hk, (pth_old (x := bare b d) hha).trans h2, ?_⟩
  by_cases e : d.1 = 0
  · rw [if_pos e]
    rw [if_pos (show (bare b d).lc = 0 from e)] at hp
    rw [show pth [bare a (0, 0)] ((0, 0), (true : Bool)).1 = [] from pth_none (has_root h1 0)] at hp
    exact hp
  · rw [if_neg e]
    rw [if_neg (show ¬ (bare b d).lc = 0 from e)] at hp
    have hda : ilf (bare b d) = a := (hd.resolve_left e)
    rw [hda] at hp
    have hp : pth ([bare a (0, 0)] ++ [bare b d]) b = pth [bare a (0, 0)] a ++ [(true, b)] := hp
    rw [h2] at hp
    exact hp
theorem nbs_is {l : List It} {x : It} (h : knownI l = true) (hx : knownX l x = true) : knownI (nbs l x) = true ∧ knownX (nbs l x) x = true ∧ hgP (nbs l x) x = hgP l x ∧ (nbs l x).length ≤ 2 := by
  obtain ⟨h0, hno, hlf, hrt⟩ := knownX_spec hx
  have hne : ∀ a : I2, hasI l a = true → iid x ≠ a := fun a ha e => by rw [← e, hno] at ha; cases ha
  have hX : ∀ m : List It, hasI m (iid x) = false → (x.lc = 0 ∨ hasI m (ilf x) = true) → (x.rc = 0 ∨ hasI m (irt x) = true) → knownX m x = true := by
    intro m e1 e2 e3
    unfold knownX
    rw [decide_eq_true h0, e1]
    have e2' : (decide (x.lc = 0) || hasI m (ilf x)) = true := by rcases e2 with e | e <;> simp [e]
    have e3' : (decide (x.rc = 0) || hasI m (irt x)) = true := by rcases e3 with e | e <;> simp [e]
    rw [e2', e3']; rfl
  unfold nbs
  by_cases hl : x.lc = 0
  · rw [if_pos hl]
    by_cases hr : x.rc = 0
    · rw [if_pos (.inl hr)]
      refine ⟨rfl, hX _ rfl (.inl hl) (.inl hr), ?_, by simp⟩
      rw [List.append_nil, hgP_st hr, hgP_st hr]
    · have hri := hrt.resolve_left hr
      have hrl : ¬ (irt x = ilf x) := fun e => hr ((congrArg Prod.fst e).trans hl)
      rw [if_neg (fun e => e.elim hr hrl), if_pos hl, List.nil_append]
      have hs : (hungP l (irt x) (0, 0)).isSome = true := by
        obtain ⟨s, p, e, _⟩ := pth_ends h _ hri
        rcases hp : pth l (irt x) with _ | ⟨⟨s1, c1⟩, r⟩
        · rw [hp] at e; simp at e
        · rw [hung_some (show pth l (irt x) = pth l (0, 0) ++ (s1, c1) :: r by rw [pth_none (has_root h 0)]; exact hp)]; rfl
      rw [if_pos hs]
      have hk := (bare_one (show (irt x).1 ≠ 0 from hr) (show (ilf x).1 = 0 from hl)).1
      refine ⟨hk, hX _ ?_ (.inl hl) (.inr (has_iffI.2 ⟨_, List.mem_cons_self .., rfl⟩)), ?_, by simp⟩
      · unfold hasI
        have := hne _ hri
        have : ¬ (iid (bare (irt x) (ilf x)) = iid x) := fun e => this e.symm
        simp [this]
      · rw [hgP_rt hr hl, hgP_rt hr hl]
  · rw [if_neg hl]
    have hli := hlf.resolve_left hl
    by_cases hr : x.rc = 0
    · rw [if_pos (.inl hr), List.append_nil]
      refine ⟨(bare_one (show (ilf x).1 ≠ 0 from hl) rfl).1, hX _ ?_ (.inr (has_iffI.2 ⟨_, List.mem_cons_self .., rfl⟩)) (.inl hr), ?_, by simp⟩
      · unfold hasI
        have := hne _ hli
        have : ¬ (iid (bare (ilf x) (0, 0)) = iid x) := fun e => this e.symm
        simp [this]
      · rw [hgP_st hr, hgP_st hr]
    · have hri := hrt.resolve_left hr
      by_cases hrl : irt x = ilf x
      · rw [if_pos (.inr hrl), List.append_nil]
        obtain ⟨hk, hp⟩ := bare_one (show (ilf x).1 ≠ 0 from hl) (show ((0, 0) : I2).1 = 0 from rfl)
        have hh : hasI [bare (ilf x) (0, 0)] (ilf x) = true := has_iffI.2 ⟨_, List.mem_cons_self .., rfl⟩
        refine ⟨hk, hX _ ?_ (.inr hh) (.inr (by rw [hrl]; exact hh)), ?_, by simp⟩
        · unfold hasI
          have := hne _ hli
          have : ¬ (iid (bare (ilf x) (0, 0)) = iid x) := fun e => this e.symm
          simp [this]
        · rw [hgP_bo hr hl, hgP_bo hr hl, hrl, below_is hk hh hh, below_is h hli hli]
          simp
      · rw [if_neg (fun e => e.elim hr hrl), if_neg hl, hung_is h hri hli]
        have hd : (if blwP l (paths l) (irt x) (ilf x) = true then ilf x else ((0, 0) : I2)).1 = 0 ∨ (if blwP l (paths l) (irt x) (ilf x) = true then ilf x else ((0, 0) : I2)) = ilf x := by
          by_cases hb : blwP l (paths l) (irt x) (ilf x) = true
          · rw [if_pos hb]; exact .inr rfl
          · rw [if_neg hb]; exact .inl rfl
        obtain ⟨hk, hpa, hpb⟩ := bare_two (show (ilf x).1 ≠ 0 from hl) (show (irt x).1 ≠ 0 from hr) hrl hd
        have hha : hasI ([bare (ilf x) (0, 0)] ++ [bare (irt x) (if blwP l (paths l) (irt x) (ilf x) = true then ilf x else (0, 0))]) (ilf x) = true := has_iffI.2 ⟨_, List.mem_append_left _ (List.mem_cons_self ..), rfl⟩
        have hhb : hasI ([bare (ilf x) (0, 0)] ++ [bare (irt x) (if blwP l (paths l) (irt x) (ilf x) = true then ilf x else (0, 0))]) (irt x) = true := has_iffI.2 ⟨_, List.mem_append_right _ (List.mem_cons_self ..), rfl⟩
        refine ⟨hk, hX _ ?_ (.inr hha) (.inr hhb), ?_, by simp⟩
        · have e1 := hne _ hli
          have e2 := hne _ hri
          have e1 : ¬ (iid (bare (ilf x) (0, 0)) = iid x) := fun e => e1 e.symm
          have e2 : ∀ d, ¬ (iid (bare (irt x) d) = iid x) := fun d e => e2 e.symm
          unfold hasI
          simp [e1, e2]
        · have hk' : knownI ([bare (ilf x) (0, 0)] ++ [bare (irt x) (if blwP l (paths l) (irt x) (ilf x) = true then ilf x else (0, 0))]) = true := hk
          rw [hgP_bo hr hl, hgP_bo hr hl, below_is hk' hhb hha]
          have hpa' : pth ([bare (ilf x) (0, 0)] ++ [bare (irt x) (if blwP l (paths l) (irt x) (ilf x) = true then ilf x else (0, 0))]) (ilf x) = [(true, ilf x)] := hpa
          have hpb' : pth ([bare (ilf x) (0, 0)] ++ [bare (irt x) (if blwP l (paths l) (irt x) (ilf x) = true then ilf x else (0, 0))]) (irt x) = if (if blwP l (paths l) (irt x) (ilf x) = true then ilf x else ((0, 0) : I2)).1 = 0 then [(true, irt x)] else [(true, ilf x), (true, irt x)] := hpb
          rw [hpa', hpb']
          by_cases hb : blwP l (paths l) (irt x) (ilf x) = true
          · rw [if_pos hb, if_pos hb, if_neg (show ¬ (ilf x).1 = 0 from hl)]
            simp
          · rw [if_neg hb, if_neg hb, if_pos rfl]
            simp
end Go.Proofs.Ytmpomammieenjaa
