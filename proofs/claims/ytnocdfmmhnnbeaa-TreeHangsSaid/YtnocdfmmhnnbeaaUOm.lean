/-
  The order by numbers and a list of what is to do, in plain mathematics: no memory; no claim stands here.
-/
import Derived.Test.YtnocdfmmhnnbeaaUMth
import Derived.Test.YtnocdfmmhnnbeaaTLen
namespace Go.Proofs.Ytnocdfmmhnnbeaa
set_option linter.unusedVariables false

theorem GrN.id_at {l : List It} {ns : List Nd} (h : GrN l ns) {i : Nat} {x : It} (hx : l[i]? = some x) : idN ns (i + 1) = iid x := by
  obtain ⟨nd, h1, h2⟩ := h.ids i x hx
  rw [idN_of h1, h2]
theorem GrN.id_zero {l : List It} {ns : List Nd} (h : GrN l ns) : idN ns 0 = (0, 0) := by rw [idN_of h.root]; rfl
theorem GrN.pth_id {l : List It} {ns : List Nd} (h : GrN l ns) (hk : knownI l = true) {n : Nat} (hn : n ≤ l.length) : pth l (idN ns n) = pthN l n := by
  cases n with
  | zero => rw [h.id_zero, pth_none (has_root hk 0)]; rfl
  | succ i =>
    obtain ⟨y, hy⟩ : ∃ y, l[i]? = some y := ⟨l[i], List.getElem?_eq_getElem (by omega)⟩
    rw [h.id_at hy, pthN_at hy]
theorem GrN.has_id {l : List It} {ns : List Nd} (h : GrN l ns) {n : Nat} (h0 : 0 < n) (hn : n ≤ l.length) : hasI l (idN ns n) = true := by
  cases n with
  | zero => omega
  | succ i =>
    obtain ⟨y, hy⟩ : ∃ y, l[i]? = some y := ⟨l[i], List.getElem?_eq_getElem (by omega)⟩
    rw [h.id_at hy]
    exact has_iffI.2 ⟨y, List.mem_of_getElem? hy, rfl⟩
theorem GrN.on_id {l : List It} {ns : List Nd} (h : GrN l ns) {n : Nat} (hn : n ≤ l.length) : idN ns n = (0, 0) ∨ hasI l (idN ns n) = true := by
  rcases Nat.eq_zero_or_pos n with e | e
  · subst e; exact .inl h.id_zero
  · exact .inr (h.has_id e hn)
theorem GrN.id_inj {l : List It} {ns : List Nd} (h : GrN l ns) (hk : knownI l = true) {a b : Nat} (ha0 : 0 < a) (ha : a ≤ l.length) (hb0 : 0 < b) (hb : b ≤ l.length) (e : idN ns a = idN ns b) : a = b := by
  obtain ⟨i, rfl⟩ : ∃ i, a = i + 1 := ⟨a - 1, by omega⟩
  obtain ⟨j, rfl⟩ : ∃ j, b = j + 1 := ⟨b - 1, by omega⟩
  obtain ⟨x, hx⟩ : ∃ y, l[i]? = some y := ⟨l[i], List.getElem?_eq_getElem (by omega)⟩
  obtain ⟨y, hy⟩ : ∃ y, l[j]? = some y := ⟨l[j], List.getElem?_eq_getElem (by omega)⟩
  rw [h.id_at hx, h.id_at hy] at e
  rw [id_once hk hx hy e]
theorem GrN.pth_inj {l : List It} {ns : List Nd} (h : GrN l ns) (hk : knownI l = true) {a b : Nat} (ha : a ≤ l.length) (hb : b ≤ l.length) (e : pthN l a = pthN l b) : a = b := by
  have key : ∀ c, 0 < c → c ≤ l.length → pthN l c ≠ [] := fun c h0 hc hh => by
    obtain ⟨nd, hnd⟩ := h.get hc
    rw [h.up c nd hnd h0] at hh
    simp at hh
  rcases Nat.eq_zero_or_pos a with e1 | e1
  · subst e1
    rcases Nat.eq_zero_or_pos b with e2 | e2
    · exact e2.symm
    · exact absurd (e.symm.trans (pthN_zero l)) (key b e2 hb)
  · rcases Nat.eq_zero_or_pos b with e2 | e2
    · subst e2; exact absurd (e.trans (pthN_zero l)) (key a e1 ha)
    · refine h.id_inj hk e1 ha e2 hb (Go.Proofs.Ytnocdfmmhnnbeaa.pth_inj hk (h.has_id e1 ha) (h.has_id e2 hb) ?_)
      rw [h.pth_id hk ha, h.pth_id hk hb, e]

/-- all numbers, by falling Ids -/
structure FallN (l : List It) (ns : List Nd) (L : List Nat) : Prop where
  mem : ∀ n, n ∈ L ↔ 0 < n ∧ n ≤ l.length
  fall : L.Pairwise (fun a b => ltI (idN ns b) (idN ns a) = true)
/-- those that hang on one, on a side -/
def hangB (ns : List Nd) (s : Bool) (k m : Nat) : Bool := decide ((ns.getD m nd0).on = k) && ((ns.getD m nd0).right == s)
def kidN (ns : List Nd) (L : List Nat) (s : Bool) (k : Nat) : List Nat := L.filter (hangB ns s k)
theorem kidN_snoc (ns : List Nd) (L : List Nat) (s : Bool) (k m : Nat) : kidN ns (L ++ [m]) s k = if hangB ns s k m = true then kidN ns L s k ++ [m] else kidN ns L s k := by
  unfold kidN
  rw [List.filter_append]
  cases h : hangB ns s k m <;> simp [h]

theorem kid_is {l : List It} {ns : List Nd} {L : List Nat} (h : GrN l ns) (hk : knownI l = true) (hL : FallN l ns L) {k : Nat} (hkn : k ≤ l.length) (s : Bool) :
    ((kidN ns L s k).map (idN ns)).reverse = kidS l ⟨idN ns k, s⟩ := by
  refine sorted_ext (lt := fun a b => ltI a b = true) (fun a e => by rw [ltI_iff] at e; omega) (fun a b e e2 => by rw [ltI_asymm e] at e2; cases e2) ?_ (kid_rise hk _) (fun c => ?_)
  · rw [List.pairwise_reverse, List.pairwise_map]
    exact hL.fall.filter _
  · have hm : c ∈ kidS l ⟨idN ns k, s⟩ ↔ hasI l c = true ∧ pth l c = pth l (idN ns k) ++ [(s, c)] := by
      unfold kidS
      rw [srt_mem]
      exact kids_mem hk (g := ⟨idN ns k, s⟩) (h.on_id hkn)
    rw [hm, h.pth_id hk hkn, List.mem_reverse, List.mem_map]
    constructor
    · rintro ⟨n, hn, rfl⟩
      obtain ⟨hn1, hn2⟩ := List.mem_filter.1 hn
      obtain ⟨n0, nl⟩ := (hL.mem n).1 hn1
      obtain ⟨nd, hnd⟩ := h.get nl
      unfold hangB at hn2
      rw [getD_of hnd, Bool.and_eq_true, decide_eq_true_eq, beq_iff_eq] at hn2
      refine ⟨h.has_id n0 nl, ?_⟩
      rw [h.pth_id hk nl, h.up n nd hnd n0, hn2.1, hn2.2, idN_of hnd]
    · rintro ⟨hc, hp⟩
      obtain ⟨i, hi⟩ := fnd_has hc
      obtain ⟨x, hx, rfl⟩ := fnd_some hi
      have hil := lt_of_get hx
      obtain ⟨nd, hnd⟩ := h.get (n := i + 1) (by omega)
      refine ⟨i + 1, List.mem_filter.2 ⟨(hL.mem _).2 ⟨by omega, by omega⟩, ?_⟩, h.id_at hx⟩
      have hu := h.up _ nd hnd (by omega)
      rw [pthN_at hx, hp] at hu
      obtain ⟨_, on1, _⟩ := h.deep _ nd hnd
      have e1 := List.append_inj' hu rfl
      have e2 := h.pth_inj hk hkn on1 e1.1
      have e3 : (s, iid x) = (nd.right, nd.id) := by simpa using e1.2
      unfold hangB
      rw [getD_of hnd, Bool.and_eq_true, decide_eq_true_eq, beq_iff_eq]
      exact ⟨e2.symm, by injection e3 with e3; exact e3.symm⟩

/-- all that hangs on one, on a side, with all below -/
def wlk (l : List It) (g : Hg) : List I2 := walkS l (hangsP l) l.length g
theorem wlk_step {l : List It} (hk : knownI l = true) {g : Hg} (hg : g.on = (0, 0) ∨ hasI l g.on = true) : wlk l g = (kidS l g).flatMap fun c => wlk l ⟨c, false⟩ ++ c :: wlk l ⟨c, true⟩ := by
  have h1 := walk_is hk l.length g hg
  have h2 := walk_is hk (l.length + 1) g hg
  have : walkS l (hangsP l) l.length g = walkS l (hangsP l) (l.length + 1) g := by
    refine sorted_ext (ltO_irr l) (ltO_asy l) h1.2 h2.2 (fun x => ?_)
    rw [h1.1, h2.1]
    constructor
    · rintro ⟨a, c, r, e, hr⟩; exact ⟨a, c, r, e, by omega⟩
    · rintro ⟨a, c, r, e, hr⟩
      refine ⟨a, c, r, e, ?_⟩
      have := pth_length hk x
      rw [e] at this
      simp at this
      omega
  unfold wlk
  rw [this, walk_step]
theorem wlk_ord {l : List It} (hk : knownI l = true) : IsOrd l (wlk l ⟨(0, 0), true⟩) := walk_ord hk _ (Nat.le_refl _)

/-- one with all below it -/
def sub (l : List It) (c : I2) : List I2 := wlk l ⟨c, false⟩ ++ c :: wlk l ⟨c, true⟩
/-- what one to do comes to -/
def expT (l : List It) (ns : List Nd) (t : Int) : List I2 := if t < 0 then [idN ns (-t).toNat] else sub l (idN ns t.toNat)
/-- all that is to do: the last one comes first -/
def expA (l : List It) (ns : List Nd) (todo : List Int) : List I2 := todo.reverse.flatMap (expT l ns)
def wt (l : List It) (ns : List Nd) (t : Int) : Nat := if t < 0 then 1 else 2 * (sub l (idN ns t.toNat)).length
def wtA (l : List It) (ns : List Nd) (todo : List Int) : Nat := (todo.map (wt l ns)).sum
def okT (l : List It) (todo : List Int) : Prop := ∀ t ∈ todo, t ≠ 0 ∧ t.natAbs ≤ l.length
theorem expA_snoc (l : List It) (ns : List Nd) (todo : List Int) (t : Int) : expA l ns (todo ++ [t]) = expT l ns t ++ expA l ns todo := by unfold expA; simp
theorem expA_app (l : List It) (ns : List Nd) (a b : List Int) : expA l ns (a ++ b) = expA l ns b ++ expA l ns a := by unfold expA; simp
theorem wtA_app (l : List It) (ns : List Nd) (a b : List Int) : wtA l ns (a ++ b) = wtA l ns a + wtA l ns b := by unfold wtA; simp
theorem wtA_len (l : List It) (ns : List Nd) (a : List Int) : a.length ≤ wtA l ns a := by
  induction a with
  | nil => simp [wtA]
  | cons t a ih =>
    have h1 : 1 ≤ wt l ns t := by
      unfold wt
      split
      · omega
      · unfold sub; simp; omega
    have : wtA l ns (t :: a) = wt l ns t + wtA l ns a := by unfold wtA; simp
    rw [this, List.length_cons]; omega
def zs (L : List Nat) : List Int := L.map fun (n : Nat) => ((n : Nat) : Int)
theorem expA_kids {l : List It} {ns : List Nd} {L : List Nat} (h : GrN l ns) (hk : knownI l = true) (hL : FallN l ns L) {k : Nat} (hkn : k ≤ l.length) (s : Bool) : expA l ns (zs (kidN ns L s k)) = wlk l ⟨idN ns k, s⟩ := by
  rw [wlk_step hk (h.on_id hkn), ← kid_is h hk hL hkn s]
  unfold expA zs
  rw [← List.map_reverse, List.flatMap_map, ← List.map_reverse, List.flatMap_map]
  refine congrArg (List.flatMap · (kidN ns L s k).reverse) (funext fun n => ?_)
  unfold expT sub
  rw [if_neg (by omega), Int.toNat_natCast]
theorem wtA_nat (l : List It) (ns : List Nd) : ∀ L : List Nat, wtA l ns (zs L) = 2 * (expA l ns (zs L)).length
  | [] => by simp [wtA, expA, zs]
  | n :: L => by
    have e1 : zs (n :: L) = [(n : Int)] ++ zs L := rfl
    rw [e1, wtA_app, expA_app, wtA_nat l ns L, List.length_append]
    have : wtA l ns [(n : Int)] = 2 * (expA l ns [(n : Int)]).length := by
      have h0 : ¬ ((n : Int) < 0) := by omega
      unfold wtA expA wt expT
      simp [h0]
    rw [this]; omega
theorem okT_kids {l : List It} {ns : List Nd} {L : List Nat} (hL : FallN l ns L) (s : Bool) (k : Nat) : okT l (zs (kidN ns L s k)) := by
  intro t ht
  obtain ⟨n, hn, rfl⟩ := List.mem_map.1 ht
  have := (hL.mem n).1 (List.mem_filter.1 hn).1
  exact ⟨by omega, by omega⟩
/-- one with all below it is done -/
theorem todo_step {l : List It} {ns : List Nd} {L : List Nat} (h : GrN l ns) (hk : knownI l = true) (hL : FallN l ns L) {todo : List Int} {n : Nat} (h0 : 0 < n) (hn : n ≤ l.length) (hok : okT l todo) :
    expA l ns (todo ++ zs (kidN ns L true n) ++ [-(n : Int)] ++ zs (kidN ns L false n)) = expA l ns (todo ++ [(n : Int)]) ∧ wtA l ns (todo ++ zs (kidN ns L true n) ++ [-(n : Int)] ++ zs (kidN ns L false n)) < wtA l ns (todo ++ [(n : Int)]) ∧
      okT l (todo ++ zs (kidN ns L true n) ++ [-(n : Int)] ++ zs (kidN ns L false n)) := by
  have e1 : expT l ns (n : Int) = wlk l ⟨idN ns n, false⟩ ++ idN ns n :: wlk l ⟨idN ns n, true⟩ := by
    unfold expT sub
    rw [if_neg (by omega), Int.toNat_natCast]
  have e2 : expA l ns [-(n : Int)] = [idN ns n] := by
    unfold expA expT
    simp only [List.reverse_cons, List.reverse_nil, List.nil_append, List.flatMap_cons, List.flatMap_nil, List.append_nil]
    rw [if_pos (by omega)]
    simp
  refine ⟨?_, ?_, ?_⟩
  · rw [expA_app, expA_app, expA_app, expA_snoc, e1, e2, expA_kids h hk hL hn, expA_kids h hk hL hn]
    simp
  · rw [wtA_app, wtA_app, wtA_app, wtA_app, wtA_nat, wtA_nat, expA_kids h hk hL hn, expA_kids h hk hL hn]
    have w1 : wtA l ns [-(n : Int)] = 1 := by
      unfold wtA wt
      simp only [List.map_cons, List.map_nil, List.sum_cons, List.sum_nil]
      rw [if_pos (by omega), Nat.add_zero]
    have w2 : wtA l ns [(n : Int)] = 2 * (wlk l ⟨idN ns n, false⟩ ++ idN ns n :: wlk l ⟨idN ns n, true⟩).length := by
      unfold wtA wt sub
      simp only [List.map_cons, List.map_nil, List.sum_cons, List.sum_nil]
      rw [if_neg (by omega), Int.toNat_natCast]; rfl
    rw [w1, w2, List.length_append, List.length_cons]; omega
  · intro t ht
    simp only [List.mem_append, List.mem_singleton] at ht
    rcases ht with ((ht | ht) | ht) | ht
    · exact hok t ht
    · exact okT_kids hL _ _ t ht
    · subst ht; omega
    · exact okT_kids hL _ _ t ht

end Go.Proofs.Ytnocdfmmhnnbeaa
