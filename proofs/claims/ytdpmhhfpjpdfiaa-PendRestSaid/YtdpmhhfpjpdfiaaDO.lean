/-
  Several texts of this seat in one file, each in the namespace again; no claim stands here.
-/
import Derived.Deep.DeepCutAuto
import Derived.Deep.CutBlock
import Derived.Deep.RegionLaw
import Derived.Laws.OwnMore
import Derived.Test.YtdpmhhfpjpdfiaaDN
namespace Go.Proofs.Ytdpmhhfpjpdfiaa
open Go.ChangeShapes Go.WideShapes Go.ChangeAt Go.RowKit Go.Sort
set_option linter.unusedVariables false
set_option linter.unusedSimpArgs false

structure SoftAtV (Rel : World → World → Prop) (k0 j0 s0 : Nat) (Pre : World → Prop) (Post : Value → World → Prop) (tab : SoftTab) (a0 a : Act) (w W : World) (listed : Array Bool) : Prop where
  rel : Rel w W
  phase : (listed.getD k0 false = true → Post (a.tmps.getD s0 undef) W) ∧ (listed.getD k0 false = false → Pre W)
  defers : a.defers = a0.defers
  size : a.tmps.size = a0.tmps.size
  out : ∀ t, t ∉ tab.map (·.1) → a.tmps[t]? = a0.tmps[t]?
  told : ∀ (k d : Nat) (R : Told), tab[k]? = some (d, R) → listed.getD k false = true → (k ≠ j0 ∨ listed.getD k0 false = false) → R (a.tmps.getD d undef) W
def SoftMonoV (Rel : World → World → Prop) (j0 : Nat) (tab : SoftTab) : Prop :=
  (∀ (k d : Nat) (R : Told), tab[k]? = some (d, R) → ∀ (v : Value) (W W' : World), R v W → Ext W W' → R v W') ∧
  (∀ (k d : Nat) (R : Told), tab[k]? = some (d, R) → k ≠ j0 → ∀ (v : Value) (W W' : World), R v W → Rel W W' → R v W')
def SoftStepV (k0 j0 : Nat) (Pre : World → Prop) (Rel : World → World → Prop) (P : Program) (ops : Array Oper) (tab : SoftTab) (Q : Exit → Act → World → Prop) (a0 : Act) (w : World) (k : Nat) (o : Oper) : Prop :=
  ∀ a W, Rel w W → (depB ops k0 k = true → Pre W) → (∀ t, t ∉ tab.map (·.1) → a.tmps.getD t undef = a0.tmps.getD t undef) → (∀ e ∈ o.after.toList, Region.binds .any e = true → ∀ (d : Nat) (R : Told), tab[e.on]? = some (d, R) → (e.on ≠ j0 ∨ depB ops k0 k = true) → R (a.tmps.getD d undef) W ∧ d < a.tmps.size) →
    ∀ (d : Nat) (R : Told), tab[k]? = some (d, R) → wpOp P ops Q k (fun a' W' => ∃ v, a' = a.put (some d) v ∧ R v W' ∧ Ext W W') a W
def SoftStepD (s0 : Nat) (Rel : World → World → Prop) (Pre : World → Prop) (Post : Value → World → Prop) (P : Program) (ops : Array Oper) (tab : SoftTab) (Q : Exit → Act → World → Prop) (a0 : Act) (w : World) (k : Nat) (o : Oper) : Prop :=
  ∀ a W, Rel w W → Pre W → (∀ t, t ∉ tab.map (·.1) → a.tmps.getD t undef = a0.tmps.getD t undef) → (∀ e ∈ o.after.toList, Region.binds .any e = true → ∀ (d : Nat) (R : Told), tab[e.on]? = some (d, R) → R (a.tmps.getD d undef) W ∧ d < a.tmps.size) →
    ∀ (d : Nat) (R : Told), tab[k]? = some (d, R) → wpOp P ops Q k (fun a' W' => ∃ v, a' = a.put (some d) v ∧ R v W' ∧ Rel W W' ∧ Post (a.tmps.getD s0 undef) W') a W

theorem wpAny_softV {Rel : World → World → Prop} {k0 j0 s0 : Nat} {R0 : Told} {Pre : World → Prop} {Post : Value → World → Prop} {P : Program} {ops : Array Oper} {n : Nat} {tab : SoftTab} {Q : Exit → Act → World → Prop} {a0 : Act} {w : World} {rest : List Oper}
    (htrans : ∀ a b c, Rel a b → Rel b c → Rel a c)
    (hlen : tab.length = n) (hnd : (tab.map (·.1)).Nodup) (hsz : ∀ d ∈ tab.map (·.1), d < a0.tmps.size)
    (hn : n < ops.size) (hs : Region.sinkB .any ops n = true) (hc : Region.chainB .any ops n = true)
    (hback : ∀ (k : Nat) (o : Oper), k < n → ops[k]? = some o → ∀ e ∈ o.after.toList, Region.binds .any e = true → e.on < k)
    (hj : tab[j0]? = some (s0, R0)) (hjd : depB ops k0 j0 = true) (hmono : SoftMonoV Rel j0 tab)
    (hsub : ∀ a b, Ext a b → Rel a b) (hpre : ∀ a b, Ext a b → Pre a → Pre b) (hpost : ∀ v a b, Ext a b → Post v a → Post v b) (hk0 : k0 < n)
    (hstep : ∀ (k : Nat) (o : Oper), k < n → k ≠ k0 → ops[k]? = some o → SoftStepV k0 j0 Pre Rel P ops tab Q a0 w k o) (hcall : ∀ o, ops[k0]? = some o → SoftStepD s0 Rel Pre Post P ops tab Q a0 w k0 o)
    (hrest : ∀ j, rest[j]? = ops[n + j]?) (hrl : rest.length = ops.size - n) (hseq : Region.seqB .any ops rest.length n (doneTo n ops.size) = true)
    (hend : ∀ a W, SoftAtV Rel k0 j0 s0 Pre Post tab a0 a w W (doneTo n ops.size) → wpList P ops Q rest a W) :
    ∀ (f : Nat) (listed : Array Bool) (a : Act) (W : World), HeadInv .any ops n listed → (listed.toList.take n).count false = f → SoftAtV Rel k0 j0 s0 Pre Post tab a0 a w W listed → wpAny P .any ops Q (f + rest.length) listed a W := by
  intro f
  induction f with
  | zero =>
    intro listed a W inv hcnt hI
    have e : listed = doneTo n ops.size := by
      apply Array.ext
      · rw [inv.size]; simp [doneTo]; omega
      · intro i h1 h2
        rcases Nat.lt_or_ge i n with h | h
        · have hm : listed[i] ∈ listed.toList.take n := by
            rw [List.mem_take_iff_getElem]
            exact ⟨i, by simp; omega, by simp⟩
          have hne : listed[i] ≠ false := fun e => by
            rw [e] at hm
            have := List.count_pos_iff.2 hm
            omega
          have : listed[i] = true := by simpa using hne
          rw [this]
          simp [doneTo, h]
        · have := inv.tail i h (by rw [← inv.size]; exact h1)
          have h3 : listed[i] = false := by simpa [Array.getD, h1] using this
          rw [h3]
          simp [doneTo, List.getElem_append, Nat.not_lt.2 h]
    subst e
    rw [Nat.zero_add]
    exact wpAny_of_seq (md := .any) rest n _ a W hrest hseq (hend a W hI)
  | succ f ih =>
    intro listed a W inv hcnt hI
    have hex : ∃ i, i < n ∧ listed.getD i true = false := by
      have hm : false ∈ listed.toList.take n := List.count_pos_iff.1 (by omega)
      rw [List.mem_take_iff_getElem] at hm
      obtain ⟨i, h1, h2⟩ := hm
      have h1' : i < n ∧ i < listed.size := by simp at h1; omega
      refine ⟨i, h1'.1, ?_⟩
      simp [Array.getD, h1'.2]
      simpa using h2
    obtain ⟨i0, hi0, hun0⟩ := hex
    rw [show f + 1 + rest.length = (f + rest.length) + 1 by omega]
    refine ⟨fun hr => ?_, fun i hi => ?_⟩
    · exfalso
      have key : ∀ k, k < n → listed.getD k false = true := by
        intro k
        induction k using Nat.strongRecOn with
        | ind k ihk =>
          intro hk
          rcases hb : listed.getD k false with _ | _
          · exfalso
            have hk' : k < listed.size := by rw [inv.size]; omega
            have hk2 : k < ops.size := by omega
            have hm : k ∈ Region.ready .any ops listed := by
              rw [mem_ready]
              refine ⟨getD_in hk' hb, ops[k], by simp [hk2], fun e he hb' => ?_⟩
              have hlt := hback k ops[k] hk (by simp [hk2]) e (by simpa using he) hb'
              exact ihk e.on hlt (by omega)
            rw [hr] at hm
            cases hm
          · rfl
      have h9 := key i0 hi0
      rw [getD_both hun0] at h9
      cases h9
    · have hin : i < n := by
        rcases Nat.lt_or_ge i n with h | h
        · exact h
        · exact absurd hi (tail_waits hs hc hn inv _ i0 rfl hi0 hun0 i h)
      obtain ⟨h1, o, ho, hdep⟩ := mem_ready.1 hi
      obtain ⟨⟨d, R⟩, htab⟩ : ∃ p, tab[i]? = some p := ⟨tab[i], List.getElem?_eq_getElem (by omega)⟩
      have hdsz : d < a.tmps.size := by rw [hI.size]; exact hsz d (List.mem_map.2 ⟨(d, R), List.mem_of_getElem? htab, rfl⟩)
      have hk0of : depB ops k0 i = true → listed.getD k0 false = false := fun hd0 => by
        rcases hbk : listed.getD k0 false with _ | _
        · rfl
        · obtain ⟨o0, ho0, e0, he0, hb0, hon⟩ := depB_spec hd0
          have h7 := inv.closed k0 o0 ho0 hbk e0 (by simpa using he0) hb0
          rw [hon, getD_both h1] at h7
          cases h7
      have hj0l : listed.getD k0 false = true → listed.getD j0 false = true := fun hbk => by
        obtain ⟨o0, ho0, e0, he0, hb0, hon⟩ := depB_spec hjd
        have h7 := inv.closed k0 o0 ho0 hbk e0 (by simpa using he0) hb0
        rwa [hon] at h7
      have hjne : j0 ≠ k0 := fun e => by
        obtain ⟨o0, ho0, e0, he0, hb0, hon⟩ := depB_spec hjd
        have := hback k0 o0 hk0 ho0 e0 he0 hb0
        omega
      have hdeps : ∀ e ∈ o.after.toList, Region.binds .any e = true → ∀ (d' : Nat) (R' : Told), tab[e.on]? = some (d', R') → (e.on ≠ j0 ∨ listed.getD k0 false = false) → R' (a.tmps.getD d' undef) W ∧ d' < a.tmps.size := fun e he hb d' R' ht' hor =>
        ⟨hI.told e.on d' R' ht' (hdep e (by simpa using he) hb) hor, by rw [hI.size]; exact hsz d' (List.mem_map.2 ⟨(d', R'), List.mem_of_getElem? ht', rfl⟩)⟩
      have hst : wpOp P ops Q i (fun a' W' => ∃ v, a' = a.put (some d) v ∧ R v W' ∧ Rel W W' ∧ (i ≠ k0 → Ext W W') ∧ ((listed.setIfInBounds i true).getD k0 false = true → Post (a.tmps.getD s0 undef) W') ∧ ((listed.setIfInBounds i true).getD k0 false = false → Pre W')) a W := by
        by_cases hik : i = k0
        · subst hik
          have hf : listed.getD i false = false := getD_both h1
          refine wpOp_mono (fun a' W' hh => ?_) (hcall o ho a W hI.rel (hI.phase.2 hf) (fun t ht => by simp only [Array.getD_eq_getD_getElem?, hI.out t ht]) (fun e he hb d' R' ht' => hdeps e he hb d' R' ht' (.inr hf)) d R htab)
          obtain ⟨v, e1, e2, e3, e4⟩ := hh
          have hil' : i < listed.size := by rw [inv.size]; omega
          exact ⟨v, e1, e2, e3, fun hne => absurd rfl hne, fun _ => e4, fun hh => by simp [hil'] at hh⟩
        · refine wpOp_mono (fun a' W' hh => ?_) (hstep i o hin hik ho a W hI.rel (fun hd0 => hI.phase.2 (hk0of hd0)) (fun t ht => by simp only [Array.getD_eq_getD_getElem?, hI.out t ht]) (fun e he hb d' R' ht' hor => hdeps e he hb d' R' ht' (hor.imp id hk0of)) d R htab)
          obtain ⟨v, e1, e2, e3⟩ := hh
          refine ⟨v, e1, e2, hsub _ _ e3, fun _ => e3, fun hh => hpost _ _ _ e3 (hI.phase.1 ?_), fun hh => hpre _ _ e3 (hI.phase.2 ?_)⟩
          · rw [getD_set_ne false hik] at hh; exact hh
          · rw [getD_set_ne false hik] at hh; exact hh
      refine wpOp_mono (fun a' W' hh => ?_) hst
      obtain ⟨v, rfl, hR, hx, hxe, hph⟩ := hh
      have hil' : i < listed.size := by rw [inv.size]; omega
      refine ih _ _ _ (inv.set hi hin) ?_ ⟨htrans _ _ _ hI.rel hx, ⟨fun hh => ?_, hph.2⟩, hI.defers, by simp only [Act.put, Array.size_setIfInBounds]; exact hI.size, ?_, ?_⟩
      · have e : (listed.toList.take n)[i]? = some false := by
          have h3 : listed[i] = false := by simpa [Array.getD, hil'] using h1
          rw [List.getElem?_take, if_pos hin]
          simp [hil', h3]
        have := count_set (listed.toList.take n) i e
        rw [Array.toList_setIfInBounds, List.take_set]
        omega
      · have hdne : d ≠ s0 := by
          by_cases hik : i = k0
          · exact tab_ne hnd htab hj (fun e => hjne (e.symm.trans hik))
          · have hl0 : listed.getD k0 false = true := by rw [getD_set_ne false hik] at hh; exact hh
            have hjl := hj0l hl0
            exact tab_ne hnd htab hj (fun e => by rw [← e, getD_both h1] at hjl; cases hjl)
        have h9 := hph.1 hh
        simp only [Act.put, Array.getD_eq_getD_getElem?, Array.getElem?_setIfInBounds_ne hdne]
        simp only [Array.getD_eq_getD_getElem?] at h9
        exact h9
      · intro t ht
        have hne : d ≠ t := fun e => ht (e ▸ List.mem_map.2 ⟨(d, R), List.mem_of_getElem? htab, rfl⟩)
        simp only [Act.put]
        rw [Array.getElem?_setIfInBounds_ne hne]
        exact hI.out t ht
      · intro k d2 R2 ht2 hl2 hor
        simp only [Act.put]
        by_cases hki : k = i
        · subst hki
          obtain ⟨rfl, rfl⟩ : d = d2 ∧ R = R2 := by rw [htab] at ht2; injection ht2 with e; injection e with e1 e2; exact ⟨e1, e2⟩
          simp [hdsz]
          exact hR
        · have hne : d ≠ d2 := tab_ne hnd htab ht2 (fun e => hki e.symm)
          have h3 : listed.getD k false = true := by rw [getD_set_ne false (fun e => hki e.symm)] at hl2; exact hl2
          have : R2 (a.tmps.getD d2 undef) W' := by
            by_cases hik : i = k0
            · have hkj : k ≠ j0 := by
                rcases hor with h | h
                · exact h
                · exfalso
                  rw [hik] at h
                  have hil2 : k0 < listed.size := by rw [inv.size]; omega
                  simp [hil2] at h
              exact hmono.2 k d2 R2 ht2 hkj _ _ _ (hI.told k d2 R2 ht2 h3 (.inl hkj)) hx
            · refine hmono.1 k d2 R2 ht2 _ _ _ (hI.told k d2 R2 ht2 h3 (hor.imp id fun h => ?_)) (hxe hik)
              rwa [getD_set_ne false hik] at h
          simp only [Array.getD_eq_getD_getElem?, Array.getElem?_setIfInBounds_ne hne]
          simp only [Array.getD_eq_getD_getElem?] at this
          exact this

def SoftAllV (Rel : World → World → Prop) (k0 j0 s0 : Nat) (Pre : World → Prop) (Post : Value → World → Prop) (P : Program) (ops : Array Oper) (tab : SoftTab) (Q : Exit → Act → World → Prop) (a0 : Act) (w : World) : List Oper → Nat → Prop
  | [], _ => True
  | o :: r, k => (if k = k0 then SoftStepD s0 Rel Pre Post P ops tab Q a0 w k o else SoftStepV k0 j0 Pre Rel P ops tab Q a0 w k o) ∧ SoftAllV Rel k0 j0 s0 Pre Post P ops tab Q a0 w r (k + 1)
theorem softAllV_spec {Rel : World → World → Prop} {k0 j0 s0 : Nat} {Pre : World → Prop} {Post : Value → World → Prop} {P : Program} {ops : Array Oper} {tab : SoftTab} {Q : Exit → Act → World → Prop} {a0 : Act} {w : World} : ∀ (l : List Oper) (k : Nat), SoftAllV Rel k0 j0 s0 Pre Post P ops tab Q a0 w l k → ∀ (j : Nat) (o : Oper), l[j]? = some o →
    if k + j = k0 then SoftStepD s0 Rel Pre Post P ops tab Q a0 w (k + j) o else SoftStepV k0 j0 Pre Rel P ops tab Q a0 w (k + j) o
  | [], _, _, j, o, h => by simp at h
  | x :: l, k, h, 0, o, ho => by
    obtain rfl : x = o := by simpa using ho
    exact h.1
  | x :: l, k, h, j + 1, o, ho => by
    have := softAllV_spec l (k + 1) h.2 j o (by simpa using ho)
    rwa [Nat.add_assoc, Nat.add_comm 1 j] at this
theorem wp_soft_tailV (Rel : World → World → Prop) (k0 j0 s0 : Nat) (R0 : Told) (Pre : World → Prop) (Post : Value → World → Prop) {P : Program} {l : List Oper} (n : Nat) (tab : SoftTab) {Q : Exit → Act → World → Prop} {a : Act} {w : World} {id : Nat} (hm : P.follows .mixedOrders = true)
    (hform : softForm n l = true) (htrans : ∀ a b c, Rel a b → Rel b c → Rel a c) (hsub : ∀ a b, Ext a b → Rel a b) (hpre : ∀ a b, Ext a b → Pre a → Pre b) (hpost : ∀ v a b, Ext a b → Post v a → Post v b) (hk0 : k0 < n) (hw : Pre w)
    (hlen : tab.length = n) (hnd : (tab.map (·.1)).Nodup) (hsz : ∀ d ∈ tab.map (·.1), d < a.tmps.size) (hj : tab[j0]? = some (s0, R0)) (hjd : depB l.toArray k0 j0 = true) (hmono : SoftMonoV Rel j0 tab)
    (hend : ∀ a' W, SoftAtV Rel k0 j0 s0 Pre Post tab a a' w W (doneTo n l.length) → wpList P l.toArray Q (l.drop n) a' W)
    (hstep : SoftAllV Rel k0 j0 s0 Pre Post P l.toArray tab Q a w (l.take n) 0) : (Code.region id l.toArray true).wp P Q a w := by
  unfold softForm at hform
  simp only [Bool.and_eq_true, decide_eq_true_eq] at hform
  obtain ⟨⟨⟨⟨hn, hs⟩, hc⟩, hb⟩, hq⟩ := hform
  have hdl : (l.drop n).length = l.length - n := by simp
  have inv0 : HeadInv .any l.toArray n (Array.replicate l.toArray.size false) :=
    ⟨by simp, fun j oj _ hl => (by rw [getD_replicate_false] at hl; cases hl), fun t _ ht => getD_in (by simpa using ht) (getD_replicate_false _ _)⟩
  refine wp_region_any hm ?_
  have := wpAny_softV (Rel := Rel) (k0 := k0) (j0 := j0) (s0 := s0) (R0 := R0) (Pre := Pre) (Post := Post) (P := P) (ops := l.toArray) (n := n) (tab := tab) (Q := Q) (a0 := a) (w := w) (rest := l.drop n) htrans hlen hnd hsz (by simpa using hn) hs hc
    (fun k o hk ho => softBackN_spec hb k o hk (by simpa using ho)) hj hjd hmono
    hsub hpre hpost hk0
    (fun k o hk hne ho => by
      have := softAllV_spec (l.take n) 0 hstep k o (by rw [List.getElem?_take, if_pos hk]; simpa using ho)
      rw [Nat.zero_add, if_neg hne] at this
      exact this)
    (fun o ho => by
      have := softAllV_spec (l.take n) 0 hstep k0 o (by rw [List.getElem?_take, if_pos hk0]; simpa using ho)
      rw [Nat.zero_add, if_pos rfl] at this
      exact this)
    (fun j => by simp [List.getElem?_drop]) (by simp) (by rw [hdl]; simpa using hq) (fun a' W h => hend a' W (by simpa using h)) n (Array.replicate l.toArray.size false) a { w with drawn := w.drawn + 1 } inv0
    (by
      simp
      omega) ⟨hsub _ _ ((Ext.refl w).drew), ⟨fun hh => (by rw [getD_replicate_false] at hh; cases hh), fun _ => hpre _ _ ((Ext.refl w).drew) hw⟩, rfl, rfl, fun _ _ => rfl, fun k d R h1 h2 _ => by rw [getD_replicate_false] at h2; cases h2⟩
  rw [hdl] at this
  have e : n + (l.length - n) = l.toArray.size := by simp; omega
  rw [e] at this
  exact this

theorem softV_val {k0 j0 : Nat} {Pre : World → Prop} {Rel : World → World → Prop} {P : Program} {ops : Array Oper} {tab : SoftTab} {Q : Exit → Act → World → Prop} {a0 : Act} {w : World} {k : Nat} {o : Oper} (d : Nat) (R : Told) (hk : ops[k]? = some o) (hd : o.dst = some d) (htab : tab[k]? = some (d, R))
    (h : ∀ (a : Act) (W : World), Rel w W → (depB ops k0 k = true → Pre W) → (∀ t, t ∉ tab.map (·.1) → a.tmps.getD t undef = a0.tmps.getD t undef) → (∀ e ∈ o.after.toList, Region.binds .any e = true → ∀ (d : Nat) (R : Told), tab[e.on]? = some (d, R) → (e.on ≠ j0 ∨ depB ops k0 k = true) → R (a.tmps.getD d undef) W ∧ d < a.tmps.size) →
      Region.wanted o (yielded ops a.tmps) = true ∧ ∃ v W', (execOp a.eval o).run P W = .ok (.value v) W' ∧ R v W' ∧ Ext W W') : SoftStepV k0 j0 Pre Rel P ops tab Q a0 w k o := by
  intro a W hx hpre hout hdep d' R' ht
  rw [htab] at ht
  injection ht with ht
  injection ht with e1 e2
  subst e1
  subst e2
  obtain ⟨hw, v, W', hrun, hR, hE⟩ := h a W hx hpre hout hdep
  unfold wpOp
  simp only [hk]
  rw [if_pos hw]
  refine Or.inl ?_
  unfold Oper.wp
  rw [hrun, Oper.upon_value, hd]
  exact ⟨v, rfl, hR, hE⟩
theorem softV_call {k0 j0 : Nat} {Pre : World → Prop} {Rel : World → World → Prop} {P : Program} {ops : Array Oper} {tab : SoftTab} {Q : Exit → Act → World → Prop} {a0 : Act} {w : World} {k : Nat} {o : Oper} (d : Nat) (R : Told) (hk : ops[k]? = some o) (hd : o.dst = some d) (htab : tab[k]? = some (d, R))
    (h : ∀ (a : Act) (W : World), Rel w W → (depB ops k0 k = true → Pre W) → (∀ t, t ∉ tab.map (·.1) → a.tmps.getD t undef = a0.tmps.getD t undef) → (∀ e ∈ o.after.toList, Region.binds .any e = true → ∀ (d : Nat) (R : Told), tab[e.on]? = some (d, R) → (e.on ≠ j0 ∨ depB ops k0 k = true) → R (a.tmps.getD d undef) W ∧ d < a.tmps.size) →
      Region.wanted o (yielded ops a.tmps) = true ∧ ∃ f args, (execOp a.eval o).run P W = .ok (.enter f args) W ∧ Calls P f args W fun e W' => ∃ v, e = .returned v ∧ R v W' ∧ Ext W W') : SoftStepV k0 j0 Pre Rel P ops tab Q a0 w k o := by
  intro a W hx hpre hout hdep d' R' ht
  rw [htab] at ht
  injection ht with ht
  injection ht with e1 e2
  subst e1
  subst e2
  obtain ⟨hw, f, args, hrun, hc⟩ := h a W hx hpre hout hdep
  unfold wpOp
  simp only [hk]
  rw [if_pos hw]
  refine Or.inl ?_
  unfold Oper.wp
  rw [hrun, Oper.upon_enter]
  refine hc.mono ?_
  rintro e W' ⟨v, rfl, hR, hE⟩
  rw [hd]
  exact ⟨v, rfl, hR, hE⟩

theorem softD_none {Rel : World → World → Prop} {Pre : World → Prop} {Post : Value → World → Prop} {s0 : Nat} {P : Program} {ops : Array Oper} {tab : SoftTab} {Q : Exit → Act → World → Prop} {a0 : Act} {w : World} {k : Nat} {o : Oper} (d : Nat) (hk : ops[k]? = some o) (hd : o.dst = none) (htab : tab[k]? = some (d, fun _ _ => True))
    (h : ∀ (a : Act) (W : World), Rel w W → Pre W → (∀ t, t ∉ tab.map (·.1) → a.tmps.getD t undef = a0.tmps.getD t undef) → (∀ e ∈ o.after.toList, Region.binds .any e = true → ∀ (d : Nat) (R : Told), tab[e.on]? = some (d, R) → R (a.tmps.getD d undef) W ∧ d < a.tmps.size) →
      Region.wanted o (yielded ops a.tmps) = true ∧ ∃ W', (execOp a.eval o).run P W = .ok .skip W' ∧ Rel W W' ∧ Post (a.tmps.getD s0 undef) W') : SoftStepD s0 Rel Pre Post P ops tab Q a0 w k o := by
  intro a W hx hpre hout hdep d' R' ht
  rw [htab] at ht
  injection ht with ht
  injection ht with e1 e2
  subst e1
  subst e2
  obtain ⟨hw, W', hrun, hE, hP⟩ := h a W hx hpre hout hdep
  unfold wpOp
  simp only [hk]
  rw [if_pos hw]
  refine Or.inl ?_
  unfold Oper.wp
  rw [hrun]
  show ∃ v, a.put o.dst undef = a.put (some d) v ∧ _
  rw [hd]
  rcases Nat.lt_or_ge d a.tmps.size with hs | hs
  · exact ⟨_, (Act.put_self a d hs).symm, trivial, hE, hP⟩
  · refine ⟨undef, ?_, trivial, hE, hP⟩
    cases a with
    | mk t df => simp only [Act.put]; congr 1; exact (Array.setIfInBounds_eq_of_size_le hs).symm

theorem wp_soft_frameV (Rel : World → World → Prop) (k0 j0 s0 : Nat) (R0 : Told) (Pre : World → Prop) (Post : Value → World → Prop) {P : Program} {l : List Oper} (n : Nat) (tab : SoftTab) {Q : Exit → Act → World → Prop} {a : Act} {w : World} {id : Nat} (hm : P.follows .mixedOrders = true)
    (hform : softForm n l = true) (htrans : ∀ a b c, Rel a b → Rel b c → Rel a c) (hsub : ∀ a b, Ext a b → Rel a b) (hpre : ∀ a b, Ext a b → Pre a → Pre b) (hpost : ∀ v a b, Ext a b → Post v a → Post v b) (hk0 : k0 < n) (hw : Pre w)
    (hlen : tab.length = n) (hnd : (tab.map (·.1)).Nodup) (hsz : ∀ d ∈ tab.map (·.1), d < a.tmps.size) (hj : tab[j0]? = some (s0, R0)) (hjd : depB l.toArray k0 j0 = true) (hmono : SoftMonoV Rel j0 tab)
    (hend : ∀ (W : World) (f : Nat → Value), (∀ (k d : Nat) (R : Told), tab[k]? = some (d, R) → k ≠ j0 → R (f d) W) → Rel w W → Post (f s0) W → wpList P l.toArray Q (l.drop n) ⟨putAll a.tmps ((tab.map (·.1)).map fun d => (d, f d)), a.defers⟩ W)
    (hstep : SoftAllV Rel k0 j0 s0 Pre Post P l.toArray tab Q a w (l.take n) 0) : (Code.region id l.toArray true).wp P Q a w := by
  refine wp_soft_tailV Rel k0 j0 s0 R0 Pre Post n tab hm hform htrans hsub hpre hpost hk0 hw hlen hnd hsz hj hjd hmono (fun a' W hS => ?_) hstep
  have h1 := hend W (fun d => a'.tmps.getD d undef) (fun k d R hk hne => hS.told k d R hk (by
    have hk' : k < n := by have := (List.getElem?_eq_some_iff.1 hk).1; omega
    simp [doneTo, hk', List.getElem?_append]) (.inl hne)) hS.rel (hS.phase.1 (by simp [doneTo, hk0, List.getElem?_append]))
  rw [← putAll_of a'.tmps _ a.tmps hS.size hS.out, ← hS.defers] at h1
  exact h1

end Go.Proofs.Ytdpmhhfpjpdfiaa

namespace Go.Proofs.Ytdpmhhfpjpdfiaa
open Go.ChangeShapes Go.WideShapes Go.ChangeAt Go.RowKit Go.Sort Go.Maps
set_option linter.unusedVariables false
set_option linter.unusedSimpArgs false
set_option linter.unusedSimpArgs false
attribute [local go_sem] World.cell?_alloc_some

def BoxQ (W : World) (q : Nat) (a b : Int) : Prop := W.heap[q]? = some (.cells #[Vu a, Vu b] 30 (0, 0))
theorem BoxQ.ext {W W' : World} {q : Nat} {a b : Int} (h : BoxQ W q a b) (hx : Ext W W') : BoxQ W' q a b := (RowKit.Below.block hx q (Array.getElem?_eq_some_iff.1 h).1).trans h
theorem BoxQ.lt {W : World} {q : Nat} {a b : Int} (h : BoxQ W q a b) : q < W.heap.size := (Array.getElem?_eq_some_iff.1 h).1
theorem BoxQ.cells {W : World} {q : Nat} {a b : Int} (h : BoxQ W q a b) : W.cell? ⟨q, 0, none⟩ = some (Vu a) ∧ W.cell? ⟨q, 1, none⟩ = some (Vu b) ∧ W.frozen? ⟨q, 0, none⟩ = false ∧ W.frozen? ⟨q, 1, none⟩ = false := by
  have h' : W.heap[q]? = some (.cells #[Vu a, Vu b] 30 (0, 0)) := h
  refine ⟨?_, ?_, ?_, ?_⟩ <;> simp [World.cell?, World.frozen?, h']
theorem BoxQ.put {W : World} {q : Nat} {a b : Int} (h : BoxQ W q a b) (c d : Int) : BoxQ ((W.setCell ⟨q, 0, none⟩ (Vu c)).setCell ⟨q, 1, none⟩ (Vu d)) q c d := by
  have h' : W.heap[q]? = some (.cells #[Vu a, Vu b] 30 (0, 0)) := h
  unfold BoxQ
  rw [setCell_eq, setCell_eq, mapBlock_mapBlock]
  simp [mapBlock, Array.getElem?_modify, h', onCells]

def KW (w1 a b : World) : Prop := Ext w1 a → Ext w1 b

theorem step_app {ops : Array Oper} {o : Oper} {a : Act} {w : World} {K : Act → World → Prop} {Q : Exit → Act → World → Prop} {E : Prop} (hg : o.guard = none) (s x : Operand)
    (hop : o.op = Op.call { callee := Callee.builtin Builtin.append, args := #[s, x], argTypes := #[51, 51] }) {v u v' : Value} {w' : World} (hs : a.eval s = v) (hx : a.eval x = u)
    (hrun : (Builtin.append_ #[51, 51] o.type #[v, u]).run Try.prog w = .ok v' w') (hK : K (a.put o.dst v') w') :
    if Region.wanted o (yielded ops a.tmps) = true then Oper.wp Try.prog o a w K Q else E := by
  have hw : Region.wanted o (yielded ops a.tmps) = true := by simp [Region.wanted, hg]
  rw [if_pos hw]
  unfold Oper.wp
  simp only [execOp, hop, resolve, invoke, builtin, Sem.run_bind, Sem.run_pure, Result.andThen_ok, List.map_toArray, List.map_cons, List.map_nil, hs, hx, hrun]
  exact hK

def askP (V : List (Int × Int)) (x : It) (i : Int) (p : List (I2 × List Int)) (hs : List Int) : List (I2 × List Int) × List Int :=
  match awI V x with
  | some a => (addP p a i, hs)
  | none => (p, (upA hs.length (hs ++ [i]).toArray).toList)

def pko0 (W1 : World) (A : Option Addr) (n cap bS pt gx N cX i : Nat) (x : It) (a1 a2 : Int) (bb : Bool) : SoftTab := [(7, fun z9 W => z9 = .pointer (some ⟨pt, 0, none⟩)),
  (8, fun z9 W => z9 = .pointer (some ⟨pt, 0, none⟩)),
  (9, fun z9 W => z9 = .pointer (some ⟨pt, 0, none⟩)),
  (10, fun z9 W => z9 = knv A n cap (some bS)),
  (11, fun z9 W => z9 = .pointer (some ⟨pt, 0, none⟩)),
  (12, fun z9 W => z9 = .pointer (some ⟨pt, 0, none⟩)),
  (13, fun z9 W => z9 = .pointer (some ⟨pt, 2, none⟩)),
  (14, fun z9 W => z9 = .slice (some ⟨gx, 0, none⟩) N cX),
  (15, fun z9 W => z9 = Vi (i : Int)),
  (16, fun z9 W => z9 = .pointer (some ⟨gx, i * 7, none⟩)),
  (17, fun z9 W => z9 = itv x),
  (18, fun z9 W => z9 = .tuple #[idv a1 a2, .bool bb]),
  (6, fun z9 W => z9 = .tuple #[idv a1 a2, .bool bb]),
  (19, fun z9 W => z9 = idv a1 a2),
  (20, fun z9 W => z9 = .bool bb),
  (4, fun z9 W => ∃ q, z9 = .pointer (some ⟨q, 0, none⟩) ∧ (W1.heap.size ≤ q ∧ BoxQ W q 0 0)),
  (5, fun z9 W => True)]
theorem pko0_mono (W1 : World) (A : Option Addr) (n cap bS pt gx N cX i : Nat) (x : It) (a1 a2 : Int) (bb : Bool) : SoftMonoV (KW W1) 15 (pko0 W1 A n cap bS pt gx N cX i x a1 a2 bb) := by
  constructor
  · intro k d R hk v' W W' h hx
    have hp := List.mem_of_getElem? hk
    simp only [pko0, List.mem_cons, Prod.mk.injEq, List.not_mem_nil, or_false] at hp
    rcases hp with ⟨_, rfl⟩ | ⟨_, rfl⟩ | ⟨_, rfl⟩ | ⟨_, rfl⟩ | ⟨_, rfl⟩ | ⟨_, rfl⟩ | ⟨_, rfl⟩ | ⟨_, rfl⟩ | ⟨_, rfl⟩ | ⟨_, rfl⟩ | ⟨_, rfl⟩ | ⟨_, rfl⟩ | ⟨_, rfl⟩ | ⟨_, rfl⟩ | ⟨_, rfl⟩ | ⟨_, rfl⟩ | ⟨_, rfl⟩
    all_goals first
      | exact h
      | (obtain ⟨q, h1, h2, h3⟩ := h
         exact ⟨q, h1, h2, h3.ext hx⟩)
  · intro k d R hk hne v' W W' h hx
    have hkn : k < 17 := (List.getElem?_eq_some_iff.1 hk).1
    have h9 : k = 0 ∨ k = 1 ∨ k = 2 ∨ k = 3 ∨ k = 4 ∨ k = 5 ∨ k = 6 ∨ k = 7 ∨ k = 8 ∨ k = 9 ∨ k = 10 ∨ k = 11 ∨ k = 12 ∨ k = 13 ∨ k = 14 ∨ k = 16 := by omega
    rcases h9 with rfl | rfl | rfl | rfl | rfl | rfl | rfl | rfl | rfl | rfl | rfl | rfl | rfl | rfl | rfl | rfl
    all_goals
      simp only [pko0, List.getElem?_cons_succ, List.getElem?_cons_zero, Option.some.injEq, Prod.mk.injEq] at hk
      obtain ⟨_, rfl⟩ := hk
      exact h

set_option maxRecDepth 100000 in
set_option maxHeartbeats 16000000 in
theorem ask_any (w0 W1 : World) (T : Nat) (A : Option Addr) (n cap : Nat) (V0 V : List (Int × Int)) (Xs : List It) (bs : List Bool) (C : List It) (hs : List Int) (g : TkV) (i : Nat) (x : It)
    (h : TkS w0 W1 T A n cap V0 V Xs bs C hs g) (hn : V0.length = n) (hm : mayFrom 0 V0 = true) (hb : n ≤ 1000) (hx : Xs[i]? = some x) (hN : Xs.length ≤ 1000) (hwf : wfI x) (hh : hs.length ≤ 1000) (hw : ∀ t ∈ g.Wt, t.2.2.length ≤ 1000) :
    Calls Try.prog 29 #[.pointer (some ⟨T, 0, none⟩), .int .i64 i] W1 fun e W' => e = .returned (.tuple #[]) ∧ ∃ g' hs', TkS w0 W' T A n cap V0 V Xs bs C hs' g' ∧ AskTo W1 g W' g' ∧ (plW g'.Wt, hs') = askP V x i (plW g.Wt) hs := by
  obtain ⟨N, hNe⟩ : ∃ N, Xs.length = N := ⟨_, rfl⟩
  have hiN : i < N := by rw [← hNe]; exact (List.getElem?_eq_some_iff.1 hx).1
  obtain ⟨gx, cX, hvX, hgx⟩ : ∃ gx cX, g.vX = .slice (some ⟨gx, 0, none⟩) N cX ∧ True := by
    rcases h.its.2 with ⟨_, h0⟩ | ⟨gx, cX, cur, e, _⟩
    · rw [h0] at hNe; omega
    · exact ⟨gx, cX, by rw [e, hNe], trivial⟩
  have hIt := h.its
  rw [hvX] at hIt
  obtain ⟨Ax, cx', e1, _, hIS⟩ := hIt.open
  injection e1 with e1 _ _
  rw [← e1] at hIS
  obtain ⟨b', o', x', e2, hx', hC⟩ := hIS.at (k := i) (by rw [hNe]; exact hiN)
  injection e2 with e2
  injection e2 with e2 e3 _
  subst e2
  subst e3
  rw [hx] at hx'
  injection hx' with hx'
  subst hx'
  obtain ⟨c0, c1, c2, c3, c4, c5, c6⟩ := hC
  simp only [Nat.zero_add] at c0 c1 c2 c3 c4 c5 c6
  obtain ⟨bS, hbS⟩ : ∃ bS, g.bS = bS := ⟨_, rfl⟩
  have t0 : W1.cell? ⟨T, 0, none⟩ = some (.slice A n cap) := h.tb.cell rfl
  have t1 : W1.cell? ⟨T, 1, none⟩ = some (.map (some bS)) := by rw [← hbS]; exact h.tb.cell rfl
  have t2 : W1.cell? ⟨T, 2, none⟩ = some (.slice (some ⟨gx, 0, none⟩) N cX) := by rw [← hvX]; exact h.tb.cell rfl
  have haw := Lib.hid (fun (W : World) (hW : Ext W1 W) => awaited_any A n cap (some bS) V0 V x W (hbS ▸ (h.ext hW).knA hn hm hb) hwf)
  obtain ⟨R, hAw⟩ : ∃ R, awI V x = R := ⟨_, rfl⟩
  rw [hAw] at haw
  obtain ⟨a1, a2, bb, hRa, hRb⟩ : ∃ a1 a2 bb, R.getD (0, 0) = (a1, a2) ∧ R.isSome = bb := ⟨_, _, _, rfl, rfl⟩
  rw [hRa, hRb] at haw
  have hi1 : (0 : Int) ≤ (i : Int) := by omega
  have hi2 : (i : Int) < (N : Int) := by omega
  replace h := Lib.hid h
  replace hAw := Lib.hid hAw
  replace hRa := Lib.hid hRa
  replace hRb := Lib.hid hRb
  replace hNe := Lib.hid hNe
  replace hbS := Lib.hid hbS
  replace hvX := Lib.hid hvX
  clear hIt e1 hIS hgx
  generalize hpt : T = pt at *
  go_enter Try.func29, Try.ntmps29
  go_upto_region 0 with fail
  refine wp_soft_frameV (KW W1) 16 15 4 _ (fun _ => True) (fun v W => ∃ q, v = .pointer (some ⟨q, 0, none⟩) ∧ W1.heap.size ≤ q ∧ BoxQ W q a1 a2) 17 (pko0 W1 A n cap bS pt gx N cX i x a1 a2 bb) (by kernel_rfl) (by kernel_rfl) (fun _ _ _ h1 h2 h => h2 (h1 h)) (fun _ _ h1 h => h.trans h1) (fun _ _ _ h => h) (fun _ _ _ h1 h => (by obtain ⟨q, e, h2, h3⟩ := h; exact ⟨q, e, h2, h3.ext h1⟩)) (by omega) trivial rfl (by show List.Nodup [7, 8, 9, 10, 11, 12, 13, 14, 15, 16, 17, 18, 6, 19, 20, 4, 5]; decide) (by show ∀ d ∈ [7, 8, 9, 10, 11, 12, 13, 14, 15, 16, 17, 18, 6, 19, 20, 4, 5], d < 40; decide) rfl (by kernel_rfl) (pko0_mono W1 A n cap bS pt gx N cX i x a1 a2 bb) ?_ ⟨?_, ?_, ?_, ?_, ?_, ?_, ?_, ?_, ?_, ?_, ?_, ?_, ?_, ?_, ?_, ?_, ?_, trivial⟩
  · intro W f hT hR hPost
    have t20 := hT 0 7 _ rfl (by decide)
    have t21 := hT 1 8 _ rfl (by decide)
    have t22 := hT 2 9 _ rfl (by decide)
    have t23 := hT 3 10 _ rfl (by decide)
    have t24 := hT 4 11 _ rfl (by decide)
    have t25 := hT 5 12 _ rfl (by decide)
    have t26 := hT 6 13 _ rfl (by decide)
    have t27 := hT 7 14 _ rfl (by decide)
    have t28 := hT 8 15 _ rfl (by decide)
    have t29 := hT 9 16 _ rfl (by decide)
    have t30 := hT 10 17 _ rfl (by decide)
    have t31 := hT 11 18 _ rfl (by decide)
    have t32 := hT 12 6 _ rfl (by decide)
    have t33 := hT 13 19 _ rfl (by decide)
    have t34 := hT 14 20 _ rfl (by decide)
    simp only [pko0, List.map_cons, List.map_nil, putAll, List.setIfInBounds_toArray, List.set_cons_zero, List.set_cons_succ, List.drop_succ_cons, List.drop_zero]
    try simp only at t20 t21 t22 t23 t24 t25 t26 t27 t28 t29 t30 t31 t32 t33 t34
    obtain ⟨qa, eq, hqa, hbx⟩ := hPost
    rw [t20, t21, t22, t23, t24, t25, t26, t27, t28, t29, t30, t31, t32, t33, t34, eq]
    clear t20 t21 t22 t23 t24 t25 t26 t27 t28 t29 t30 t31 t32 t33 t34 eq hT
    have hRE : Ext W1 W := hR (Ext.refl _)
    clear haw
    have qh := Lib.hid (h.out.ext hRE)
    have qr := Lib.hid (AskTo.ext g hRE)
    have u5 : W.cell? ⟨pt, 5, none⟩ = some g.vr := qh.out.tb.cell rfl
    have u6 : W.cell? ⟨pt, 6, none⟩ = some (.map (some g.bW)) := qh.out.tb.cell rfl
    have hpq : pt ≠ qa := by have := h.out.tb.lt; omega
    obtain ⟨ka, kb, kf, kg⟩ := hbx.cells
    cases bb
    · have hp : ∀ l', askP V x i (plW g.Wt) l' = (plW g.Wt, (upA l'.length (l' ++ [(i : Int)]).toArray).toList) := fun l' => by
        have h1 := hRb.out
        unfold askP
        rw [hAw.out]
        cases R with
        | none => rfl
        | some _ => cases h1
      replace hp := Lib.hid hp
      go_wp2_with fail
      refine (push_any w0 W pt _ g.vr hs (i : Int) qh.out.hps (by omega)).mono ?_
      rintro e W2 ⟨rfl, v', hh', hnb, ht'⟩
      obtain ⟨g', hT', e1, e2, ha'⟩ := qh.out.pushed hh' hnb ht'
      replace hT' := Lib.hid hT'
      replace ha' := Lib.hid (qr.out.trans ha')
      clear hh' hnb ht'
      go_wp2_with fail
      go_end0
      exact ⟨rfl, g', _, hT'.out, ha'.out, by rw [hp.out, e1]⟩
    · have hp : ∀ l', askP V x i (plW g.Wt) l' = (addP (plW g.Wt) (a1, a2) (i : Int), l') := fun l' => by
        have h1 := hRb.out
        have h2 := hRa.out
        unfold askP
        rw [hAw.out]
        cases R with
        | none => cases h1
        | some y => rw [← h2]; rfl
      replace hp := Lib.hid hp
      obtain ⟨bW, hbW⟩ : ∃ bW, g.bW = bW := ⟨_, rfl⟩
      rw [hbW] at u6
      have hxd : Ext W (W.alloc (.cells #[Vi (i : Int)] 3)).drew := ((Ext.refl W).alloc _).drew
      have qd := Lib.hid (qh.out.ext hxd)
      have qe := Lib.hid (qr.out.trans (AskTo.ext g hxd))
      have hqn : (W.alloc (.cells #[Vi (i : Int)] 3)).drew.heap[W.heap.size]? = some (.cells #[Vi (i : Int)] 3 (0, 0)) := heap_alloc_new W _
      obtain ⟨v0, st, w2, v3, w3, w4, g', hent, happ, hst, hT', hpl, ha'⟩ := qd.out.await (a1, a2) (i : Int) W.heap.size hqn (by have := qh.out.wm.lt; omega) hw
      rw [hbW] at hent hst
      dsimp only at hent
      replace hT' := Lib.hid hT'
      replace ha' := Lib.hid (qe.out.trans ha')
      replace hpl := Lib.hid hpl
      replace hbW := Lib.hid hbW
      clear hqn hxd qd qe
      go_upto_region 2 with fail
      go_region_law (refine step_app rfl (.tmp 27) (.tmp 29) rfl (by simp [Act.eval, Act.put]) (by simp [Act.eval, Act.put]) happ ?_)
      all_goals (go_wp2_with fail; exact bodyPost_ret (v := .tuple #[]) (by simp [results, Try.results29, go_sem]) rfl ⟨rfl, g', _, hT'.out, ha'.out, by rw [hp.out, hpl.out]⟩)
  · refine softV_val 7 _ (by kernel_rfl) rfl rfl ?_
    intro a9 W hx hpre hout hdep
    have ev0 : a9.tmps[0]?.getD undef = .pointer (some ⟨pt, 0, none⟩) := by rw [← Array.getD_eq_getD_getElem?]; exact hout 0 (by show 0 ∉ [7, 8, 9, 10, 11, 12, 13, 14, 15, 16, 17, 18, 6, 19, 20, 4, 5]; decide)
    refine ⟨rfl, .pointer (some ⟨pt, 0, none⟩), W, ?_, rfl, Ext.refl _⟩
    simp [ev0, execOp, go_sem]
  · refine softV_val 8 _ (by kernel_rfl) rfl rfl ?_
    intro a9 W hx hpre hout hdep
    have ev7 : a9.tmps[7]?.getD undef = .pointer (some ⟨pt, 0, none⟩) := by rw [← Array.getD_eq_getD_getElem?]; exact (hdep ⟨0, .data⟩ (by simp) rfl 7 _ rfl (.inl (by simp))).1
    refine ⟨rfl, .pointer (some ⟨pt, 0, none⟩), W, ?_, rfl, Ext.refl _⟩
    simp [ev7, execOp, go_sem]
  · refine softV_val 9 _ (by kernel_rfl) rfl rfl ?_
    intro a9 W hx hpre hout hdep
    have ev8 : a9.tmps[8]?.getD undef = .pointer (some ⟨pt, 0, none⟩) := by rw [← Array.getD_eq_getD_getElem?]; exact (hdep ⟨1, .data⟩ (by simp) rfl 8 _ rfl (.inl (by simp))).1
    refine ⟨rfl, .pointer (some ⟨pt, 0, none⟩), W, ?_, rfl, Ext.refl _⟩
    simp [ev8, execOp, go_sem]
  · refine softV_val 10 _ (by kernel_rfl) rfl rfl ?_
    intro a9 W hx hpre hout hdep
    have ev9 : a9.tmps[9]?.getD undef = .pointer (some ⟨pt, 0, none⟩) := by rw [← Array.getD_eq_getD_getElem?]; exact (hdep ⟨2, .data⟩ (by simp) rfl 9 _ rfl (.inl (by simp))).1
    have hE := hx (Ext.refl _)
    have q0 := hE.keep t0
    have q1 := hE.keep t1
    refine ⟨rfl, knv A n cap (some bS), W, ?_, rfl, Ext.refl _⟩
    simp [ev9, q0, q1, execOp, go_sem]
  · refine softV_val 11 _ (by kernel_rfl) rfl rfl ?_
    intro a9 W hx hpre hout hdep
    have ev0 : a9.tmps[0]?.getD undef = .pointer (some ⟨pt, 0, none⟩) := by rw [← Array.getD_eq_getD_getElem?]; exact hout 0 (by show 0 ∉ [7, 8, 9, 10, 11, 12, 13, 14, 15, 16, 17, 18, 6, 19, 20, 4, 5]; decide)
    refine ⟨rfl, .pointer (some ⟨pt, 0, none⟩), W, ?_, rfl, Ext.refl _⟩
    simp [ev0, execOp, go_sem]
  · refine softV_val 12 _ (by kernel_rfl) rfl rfl ?_
    intro a9 W hx hpre hout hdep
    have ev11 : a9.tmps[11]?.getD undef = .pointer (some ⟨pt, 0, none⟩) := by rw [← Array.getD_eq_getD_getElem?]; exact (hdep ⟨4, .data⟩ (by simp) rfl 11 _ rfl (.inl (by simp))).1
    refine ⟨rfl, .pointer (some ⟨pt, 0, none⟩), W, ?_, rfl, Ext.refl _⟩
    simp [ev11, execOp, go_sem]
  · refine softV_val 13 _ (by kernel_rfl) rfl rfl ?_
    intro a9 W hx hpre hout hdep
    have ev12 : a9.tmps[12]?.getD undef = .pointer (some ⟨pt, 0, none⟩) := by rw [← Array.getD_eq_getD_getElem?]; exact (hdep ⟨5, .data⟩ (by simp) rfl 12 _ rfl (.inl (by simp))).1
    refine ⟨rfl, .pointer (some ⟨pt, 2, none⟩), W, ?_, rfl, Ext.refl _⟩
    simp [ev12, execOp, go_sem]
  · refine softV_val 14 _ (by kernel_rfl) rfl rfl ?_
    intro a9 W hx hpre hout hdep
    have ev13 : a9.tmps[13]?.getD undef = .pointer (some ⟨pt, 2, none⟩) := by rw [← Array.getD_eq_getD_getElem?]; exact (hdep ⟨6, .data⟩ (by simp) rfl 13 _ rfl (.inl (by simp))).1
    have hE := hx (Ext.refl _)
    have q2 := hE.keep t2
    refine ⟨rfl, .slice (some ⟨gx, 0, none⟩) N cX, W, ?_, rfl, Ext.refl _⟩
    simp [ev13, q2, execOp, go_sem]
  · refine softV_val 15 _ (by kernel_rfl) rfl rfl ?_
    intro a9 W hx hpre hout hdep
    have ev1 : a9.tmps[1]?.getD undef = Vi (i : Int) := by rw [← Array.getD_eq_getD_getElem?]; exact hout 1 (by show 1 ∉ [7, 8, 9, 10, 11, 12, 13, 14, 15, 16, 17, 18, 6, 19, 20, 4, 5]; decide)
    refine ⟨rfl, Vi (i : Int), W, ?_, rfl, Ext.refl _⟩
    simp [ev1, execOp, go_sem]
  · refine softV_val 16 _ (by kernel_rfl) rfl rfl ?_
    intro a9 W hx hpre hout hdep
    have ev14 : a9.tmps[14]?.getD undef = .slice (some ⟨gx, 0, none⟩) N cX := by rw [← Array.getD_eq_getD_getElem?]; exact (hdep ⟨7, .data⟩ (by simp) rfl 14 _ rfl (.inl (by simp))).1
    have ev15 : a9.tmps[15]?.getD undef = Vi (i : Int) := by rw [← Array.getD_eq_getD_getElem?]; exact (hdep ⟨8, .data⟩ (by simp) rfl 15 _ rfl (.inl (by simp))).1
    refine ⟨rfl, .pointer (some ⟨gx, i * 7, none⟩), W, ?_, rfl, Ext.refl _⟩
    simp [ev14, ev15, hi1, hi2, execOp, go_sem]
  · refine softV_val 17 _ (by kernel_rfl) rfl rfl ?_
    intro a9 W hx hpre hout hdep
    have ev16 : a9.tmps[16]?.getD undef = .pointer (some ⟨gx, i * 7, none⟩) := by rw [← Array.getD_eq_getD_getElem?]; exact (hdep ⟨9, .data⟩ (by simp) rfl 16 _ rfl (.inl (by simp))).1
    have hE := hx (Ext.refl _)
    have q0 := hE.keep c0
    have q1 := hE.keep c1
    have q2 := hE.keep c2
    have q3 := hE.keep c3
    have q4 := hE.keep c4
    have q5 := hE.keep c5
    have q6 := hE.keep c6
    refine ⟨rfl, itv x, W, ?_, rfl, Ext.refl _⟩
    simp [ev16, q0, q1, q2, q3, q4, q5, q6, execOp, go_sem]
  · refine softV_call 18 _ (by kernel_rfl) rfl rfl ?_
    intro a9 W hx hpre hout hdep
    have ev10 : a9.tmps[10]?.getD undef = knv A n cap (some bS) := by rw [← Array.getD_eq_getD_getElem?]; exact (hdep ⟨3, .data⟩ (by simp) rfl 10 _ rfl (.inl (by simp))).1
    have ev17 : a9.tmps[17]?.getD undef = itv x := by rw [← Array.getD_eq_getD_getElem?]; exact (hdep ⟨10, .data⟩ (by simp) rfl 17 _ rfl (.inl (by simp))).1
    refine ⟨rfl, 16, #[knv A n cap (some bS), itv x], ?_, ?_⟩
    · simp [ev10, ev17, execOp, go_sem]
    · exact (haw.out W (hx (Ext.refl _))).mono (by rintro e W2 ⟨rfl, h2⟩; exact ⟨_, rfl, rfl, h2⟩)
  · refine softV_val 6 _ (by kernel_rfl) rfl rfl ?_
    intro a9 W hx hpre hout hdep
    have ev18 : a9.tmps[18]?.getD undef = .tuple #[idv a1 a2, .bool bb] := by rw [← Array.getD_eq_getD_getElem?]; exact (hdep ⟨11, .data⟩ (by simp) rfl 18 _ rfl (.inl (by simp))).1
    refine ⟨rfl, .tuple #[idv a1 a2, .bool bb], W, ?_, rfl, Ext.refl _⟩
    simp [ev18, execOp, go_sem]
  · refine softV_val 19 _ (by kernel_rfl) rfl rfl ?_
    intro a9 W hx hpre hout hdep
    have ev6 : a9.tmps[6]?.getD undef = .tuple #[idv a1 a2, .bool bb] := by rw [← Array.getD_eq_getD_getElem?]; exact (hdep ⟨12, .data⟩ (by simp) rfl 6 _ rfl (.inl (by simp))).1
    refine ⟨rfl, idv a1 a2, W, ?_, rfl, Ext.refl _⟩
    simp [ev6, execOp, go_sem]
  · refine softV_val 20 _ (by kernel_rfl) rfl rfl ?_
    intro a9 W hx hpre hout hdep
    have ev6 : a9.tmps[6]?.getD undef = .tuple #[idv a1 a2, .bool bb] := by rw [← Array.getD_eq_getD_getElem?]; exact (hdep ⟨12, .data⟩ (by simp) rfl 6 _ rfl (.inl (by simp))).1
    refine ⟨rfl, .bool bb, W, ?_, rfl, Ext.refl _⟩
    simp [ev6, execOp, go_sem]
  · refine softV_val 4 _ (by kernel_rfl) rfl rfl ?_
    intro a9 W hx hpre hout hdep
    have hE := hx (Ext.refl _)
    refine ⟨rfl, .pointer (some ⟨W.heap.size, 0, none⟩), W.alloc (.cells #[Vu 0, Vu 0] 30), ?_, ⟨_, rfl, hE.size, heap_alloc_new W _⟩, (Ext.refl W).alloc _⟩
    simp [execOp, go_sem]
  · rw [if_pos (by rfl)]
    refine softD_none 5 (by kernel_rfl) rfl rfl ?_
    intro a9 W hx hpre hout hdep
    have tl4 := (hdep ⟨15, .data⟩ (by simp) rfl 4 _ rfl).1
    have ev19 : a9.tmps[19]?.getD undef = idv a1 a2 := by rw [← Array.getD_eq_getD_getElem?]; exact (hdep ⟨13, .data⟩ (by simp) rfl 19 _ rfl).1
    obtain ⟨qb, eqb, hqb, hzb⟩ := tl4
    have eqb0 := eqb
    rw [Array.getD_eq_getD_getElem?] at eqb
    obtain ⟨kc0, kc1, fc0, fc1⟩ := hzb.cells
    refine ⟨rfl, (W.setCell ⟨qb, 0, none⟩ (Vu a1)).setCell ⟨qb, 1, none⟩ (Vu a2), ?_, fun h => (h.setCell hqb _).setCell hqb _, ⟨qb, eqb0, hqb, hzb.put a1 a2⟩⟩
    simp [eqb, kc0, kc1, fc0, fc1, ev19, execOp, go_sem]

end Go.Proofs.Ytdpmhhfpjpdfiaa

namespace Go.Proofs.Ytdpmhhfpjpdfiaa
open Go.ChangeShapes Go.WideShapes Go.ChangeAt Go.RowKit Go.Sort Go.Maps
set_option linter.unusedVariables false
set_option linter.unusedSimpArgs false
set_option linter.unusedSimpArgs false
attribute [local go_sem] World.cell?_alloc_some

theorem mapV_put {D : DataW Unit} {V0 V : List (Int × Int)} (h : MapV D V0 V) (hD : IsMap D) (hv : mayFrom 0 V = true) {c k : Int} (h0 : 0 < c) (h1 : c ≤ 4294967295) (hk : 0 < k) (hnk : nextOf V c ≤ k) :
    MapV (D.put (.int .u32 c) (.lit (.int .u32 k))) V0 (setOf V c k) := by
  constructor
  · intro d d0 d1
    by_cases e : d = c
    · subst e
      rw [if_pos (has_put_same hD (litU d0 d1) _), atKey_put_same hD (litU d0 d1), set_next _ _ _ hv, if_pos rfl]
    · have hne : (Lit.int .u32 d : Lit) ≠ .int .u32 c := fun e2 => e (by injection e2)
      have := h.1 d d0 d1
      rw [has_put_other hne, atKey_put_other hne, set_next _ _ _ hv, if_neg e]
      exact this
  · intro d hd
    by_cases e : d = c
    · subst e
      rw [set_next _ _ _ hv, if_pos rfl]
      have h3 : nextOf V0 d ≤ nextOf V d := by
        rcases hh : has D (.int .u32 d) with _ | _
        · have := h.1 d (by omega) h1
          rw [if_neg (by rw [hh]; simp)] at this
          omega
        · exact (h.2 d hh).2.2.2
      exact ⟨h0, h1, hk, by omega⟩
    · have hne : (Lit.int .u32 d : Lit) ≠ .int .u32 c := fun e2 => e (by injection e2)
      rw [has_put_other hne] at hd
      rw [set_next _ _ _ hv, if_neg e]
      exact h.2 d hd

set_option maxRecDepth 100000 in
set_option maxHeartbeats 1000000 in
theorem goOn_any (A : Option Addr) (n cap bS nn : Nat) (D : DataW Unit) (V0 V : List (Int × Int)) (c k : Int) (w : World) (hM : MapU w bS nn D) (hV : MapV D V0 V) (hv : mayFrom 0 V = true) (hn : nn < 1000)
    (h0 : 0 < c) (h1 : c ≤ 4294967295) (h2 : 0 ≤ k) (h3 : k ≤ 4294967294) (hnk : nextOf V c ≤ k) :
    Calls Try.prog 43 #[knv A n cap (some bS), idv c k] w fun e W' => e = .returned (.tuple #[]) ∧ TSb (fun b => b = bS) w W' ∧ ∃ D', MapU W' bS (nn + 1) D' ∧ MapV D' V0 (setOf V c (k + 1)) := by
  have x1 : Ext w ((w.alloc (.cells #[.slice A n cap, .map (some bS)] 46)).alloc (.cells #[Vu c, Vu k] 30)) := ((Ext.refl _).alloc _).alloc _
  have c0 : ((w.alloc (.cells #[.slice A n cap, .map (some bS)] 46)).alloc (.cells #[Vu c, Vu k] 30)).cell? ⟨w.heap.size, 1, none⟩ = some (.map (some bS)) := by simp
  have c1 : ((w.alloc (.cells #[.slice A n cap, .map (some bS)] 46)).alloc (.cells #[Vu c, Vu k] 30)).cell? ⟨w.heap.size + 1, 0, none⟩ = some (Vu c) := by simp
  have c2 : ((w.alloc (.cells #[.slice A n cap, .map (some bS)] 46)).alloc (.cells #[Vu c, Vu k] 30)).cell? ⟨w.heap.size + 1, 1, none⟩ = some (Vu k) := by simp
  replace hM := Lib.hid hM
  replace hV := Lib.hid hV
  go_enter Try.func43, Try.ntmps43
  go_upto_region 1 with fail
  go_cut [5, 4] (fun s t wx => s = .nilIface ∧ ∃ q, t = .pointer (some ⟨q, 0, none⟩) ∧ Hid (Ext w wx) ∧ Hid (BoxQ wx q c (k + 1)) ∧ wx.cell? ⟨w.heap.size, 1, none⟩ = some (.map (some bS)) ∧ wx.cell? ⟨w.heap.size + 1, 0, none⟩ = some (Vu c))
  case first =>
    go_wp2_with fail
    refine (after_nil (x := c) (y := k + 1) _ (by unfold aftId; rw [if_neg (by omega), if_neg (by omega)]) (by omega) (by omega) (by omega) (by omega) (by omega) (by omega)).mono ?_
    rintro e w2 ⟨rfl, x2⟩
    go_wp2_with fail
    go_meet
    exact ⟨rfl, w2.heap.size, rfl, Lib.hid ((x1.trans x2).alloc _), Lib.hid (heap_alloc_new w2 _), (Ext.refl w2).alloc _ |>.keep (x2.keep c0), (Ext.refl w2).alloc _ |>.keep (x2.keep c1)⟩
  case rest =>
    obtain ⟨rfl, q, rfl, hxc, hbq, y0, y1⟩ := hcut
    have hxw := hxc.out
    obtain ⟨k0, k1, _, _⟩ := hbq.out.cells
    have hMc := hM.out.ext hxw
    obtain ⟨w9, hrun, hM9, ht9⟩ := hMc.store keyedU Try.underlying44 (Nat.lt_of_lt_of_le hn (by unfold maxLen; omega)) (keyU (by omega) h1) (plainElem_int (H := Unit) Try.underlying28 (wfU (c := k + 1) (by omega) (by omega)))
    replace hM9 := Lib.hid hM9
    replace ht9 := Lib.hid ht9
    clear hMc hxw
    generalize w.heap.size = pk at *
    go_wp2_with fail
    go_end0
    exact ⟨rfl, TSb.trans (TSb.ext hxc.out) (tsb_mono (tsb_grown ht9.out.grown) (fun j _ e => by injection e with e; exact e.symm)) (fun j _ e => e), _, hM9.out, mapV_put hV.out hM.out.isMap hv h0 h1 (by omega) (by omega)⟩

end Go.Proofs.Ytdpmhhfpjpdfiaa

namespace Go.Proofs.Ytdpmhhfpjpdfiaa
open Go.ChangeShapes Go.WideShapes Go.ChangeAt Go.RowKit Go.Sort Go.Maps
set_option linter.unusedVariables false
set_option linter.unusedSimpArgs false
set_option linter.unusedSimpArgs false

def lkP : List (I2 × List Int) → I2 → List Int
  | [], _ => []
  | t :: r, a => if t.1 = a then t.2 else lkP r a
def dropP (p : List (I2 × List Int)) (a : I2) : List (I2 × List Int) := p.filter fun t => decide (t.1 ≠ a)
theorem lkP_some {Wt : List (I2 × Value × List Int)} {a : I2} {v : Value} {l : List Int} (hn : (Wt.map (·.1)).Nodup) (h : (a, v, l) ∈ Wt) : lkP (plW Wt) a = l := by
  induction Wt with
  | nil => cases h
  | cons t r ih =>
    have hn' := List.nodup_cons.1 hn
    show (if t.1 = a then t.2.2 else lkP (plW r) a) = l
    rcases List.mem_cons.1 h with e | e
    · rw [← e, if_pos rfl]
    · rw [if_neg (fun e2 => hn'.1 (by show t.1 ∈ r.map (·.1); rw [e2]; exact List.mem_map.2 ⟨_, e, rfl⟩))]
      exact ih hn'.2 e
theorem lkP_none {Wt : List (I2 × Value × List Int)} {a : I2} (h : ∀ t ∈ Wt, t.1 ≠ a) : lkP (plW Wt) a = [] := by
  induction Wt with
  | nil => rfl
  | cons t r ih =>
    show (if t.1 = a then t.2.2 else lkP (plW r) a) = []
    rw [if_neg (h t (by simp))]
    exact ih fun s hs => h s (by simp [hs])
theorem mapT_drop (Wt : List (I2 × Value × List Int)) (a : I2) : mapT (Wt.filter fun t => decide (t.1 ≠ a)) = delW (mapT Wt) a := by
  unfold mapT delW
  rw [List.filter_map]; rfl
theorem plW_drop (Wt : List (I2 × Value × List Int)) (a : I2) : plW (Wt.filter fun t => decide (t.1 ≠ a)) = dropP (plW Wt) a := by
  unfold plW dropP
  rw [List.filter_map]; rfl

section
variable {w0 W : World} {T : Nat} {A : Option Addr} {n cap : Nat} {V0 V : List (Int × Int)} {Xs : List It} {bs : List Bool} {C : List It} {hs : List Int} {g : TkV}
theorem TkS.cameSet (h : TkS w0 W T A n cap V0 V Xs bs C hs g) {bC cC : Nat} (i : Nat) (e : g.vC = .slice (some ⟨bC, 0, none⟩) bs.length cC) :
    TkS w0 (W.setCell ⟨bC, i, none⟩ (.bool true)) T A n cap V0 V Xs (bs.set i true) C hs g ∧ AskTo W g (W.setCell ⟨bC, i, none⟩ (.bool true)) g := by
  have ht : TSb (fun b => b = bC) W (W.setCell ⟨bC, i, none⟩ (.bool true)) := tsb_set W bC i _
  have hb : g.tg bC = .c := h.gC bC (by rw [e]; rfl)
  have hS : ∀ b, b = bC → g.tg b = .c := fun b e2 => by rw [e2]; exact hb
  have hc := h.came
  refine ⟨{ h with tb := h.tbT ht (fun b hb e => ?_), kn := h.knT ht (fun b hb e => ?_), its := h.itsT ht (fun b hb e => ?_), came := ?_, come := h.comeT ht (fun b hb e => ?_), ready := h.readyT ht (fun b hb e => ?_), wm := h.wmT ht (fun b hb e => ?_), wl := h.wlT ht (fun b hb a e => ?_), low := h.lowT ht (fun b hb => ?_) }, ht.size, fun b hb e => ⟨ht.block b hb (fun e2 => ?_), e⟩⟩
  case refine_4 =>
    rw [e] at hc ⊢
    have := (World.ownsRow.stored hc i (.bool true)).1
    unfold OwnG
    rw [List.length_set, List.map_set]
    exact this
  case refine_9 =>
    rw [hb]
    exact (World.ownsRow.lt h.came bC (by rw [e]; rfl)).1
  case refine_10 => rw [hS b e2] at e; cases e
  all_goals (rw [hS b hb] at e; cases e)

theorem TkS.comeAdd (h : TkS w0 W T A n cap V0 V Xs bs C hs g) {W1 : World} {v' : Value} {x : It} (ho : OwnI w0 W1 v' (C ++ [x])) (hg : W.grownBy W1 g.vo.ownBlock) (hb : v'.ownBlock = g.vo.ownBlock ∨ v'.ownBlock = some W.heap.size) :
    ∃ g', TkS w0 (W1.setCell ⟨T, 4, none⟩ v') T A n cap V0 V Xs bs (C ++ [x]) hs g' ∧ g'.bS = g.bS ∧ g'.Wt = g.Wt ∧ AskTo W g (W1.setCell ⟨T, 4, none⟩ v') g' ∧ ∀ nn D, MapU W g.bS nn D → MapU (W1.setCell ⟨T, 4, none⟩ v') g.bS nn D := by
  have t1 := tsb_grown hg
  have t2 := tsb_set W1 T 4 v'
  have ht : TSb (fun b => b = T ∨ g.vo.ownBlock = some b) W (W1.setCell ⟨T, 4, none⟩ v') := TSb.trans (tsb_mono t1 (fun j _ e => Or.inr e)) t2 (fun j _ e => Or.inl e)
  have hS : ∀ b, (b = T ∨ g.vo.ownBlock = some b) → g.tg b = .t ∨ g.tg b = .o := fun b hb => by
    rcases hb with rfl | e
    · exact .inl h.gT
    · exact .inr (h.go b e)
  have hk : ∀ b, b < W.heap.size → (if v'.ownBlock = some b then Tg.o else g.tg b) = g.tg b := fun b hbs => by
    split
    · rename_i e
      rcases hb with e2 | e2
      · rw [e2] at e; exact (h.go b e).symm
      · rw [e2] at e; injection e with e; omega
    · rfl
  have hT1 : TB W1 T (cellsT A n cap g) := h.tb.of (t1.block T h.tb.lt (fun e => by have h1 := h.go T e; rw [h.gT] at h1; cases h1))
  have hnT : v'.ownBlock ≠ some T := fun e => by
    rcases hb with e2 | e2
    · rw [e2] at e; have h1 := h.go T e; rw [h.gT] at h1; cases h1
    · rw [e2] at e; injection e with e; have := h.tb.lt; omega
  obtain ⟨nn9, D, hnn, hD, hDV⟩ := h.kn
  have hMS : ∀ nn D, MapU W g.bS nn D → MapU (W1.setCell ⟨T, 4, none⟩ v') g.bS nn D := fun nn D hM => hM.of (ht.block _ hM.lt (fun e => by rcases hS _ e with k | k <;> rw [h.gS] at k <;> cases k))
  refine ⟨{ g with vo := v', tg := fun b => if v'.ownBlock = some b then .o else g.tg b }, { tb := hT1.set 4 v', vec := h.vec, kn := ⟨nn9, D, by rw [List.length_append]; omega, hMS _ _ hD, hDV⟩, its := h.itsT ht (fun b hb e => ?_), came := h.cameT ht (fun b hb e => ?_), come := OwnG.ts ho t2 (fun b hb e => hnT (by rw [hb, e])), ready := h.readyT ht (fun b hb e => ?_), wm := h.wmT ht (fun b hb e => ?_), wl := h.wlT ht (fun b hb a e => ?_), keys := h.keys, low := h.lowT ht (fun b hb => ?_), gT := (hk T h.tb.lt).trans h.gT, gS := (hk _ hD.lt).trans h.gS, gM := (hk _ h.wm.lt).trans h.gM, gX := fun b hb => (hk b (OwnI.lt h.its b hb).2).trans (h.gX b hb), gC := fun b hb => (hk b (World.ownsRow.lt h.came b hb).2).trans (h.gC b hb), go := fun b hb => if_pos hb, gr := fun b hb => (hk b (OwnZ.lt h.ready b hb).2).trans (h.gr b hb), gw := fun t ht b hb => (hk b (OwnZ.lt (h.wl t ht) b hb).2).trans (h.gw t ht b hb), bT := h.bT, bbS := h.bbS, bbW := h.bbW }, rfl, rfl, ⟨ht.size, fun b hb e => ⟨ht.block b hb (fun e2 => ?_), (hk b hb).trans e⟩⟩, hMS⟩
  case refine_6 =>
    rcases hb with rfl | e
    · exact h.bT
    · exact (OwnI.lt h.come b e).1
  case refine_7 => rcases hS b e2 with k | k <;> rw [e] at k <;> cases k
  all_goals (rcases hS b hb with k | k <;> rw [e] at k <;> cases k)

theorem TkS.gone (h : TkS w0 W T A n cap V0 V Xs bs C hs g) {W' : World} {nn : Nat} {D : DataW Unit} {V' : List (Int × Int)} (ht : TSb (fun b => b = g.bS) W W') (hM : MapU W' g.bS nn D) (hV : MapV D V0 V') (hn : nn ≤ C.length) :
    TkS w0 W' T A n cap V0 V' Xs bs C hs g ∧ AskTo W g W' g := by
  have hS : ∀ b, b = g.bS → g.tg b = .s := fun b e => by rw [e]; exact h.gS
  refine ⟨{ h with tb := h.tbT ht (fun b hb e => ?_), kn := ⟨nn, D, hn, hM, hV⟩, its := h.itsT ht (fun b hb e => ?_), came := h.cameT ht (fun b hb e => ?_), come := h.comeT ht (fun b hb e => ?_), ready := h.readyT ht (fun b hb e => ?_), wm := h.wmT ht (fun b hb e => ?_), wl := h.wlT ht (fun b hb a e => ?_), low := h.lowT ht (fun b hb => by rw [hb]; exact h.bbS) }, ht.size, fun b hb e => ⟨ht.block b hb (fun e2 => ?_), e⟩⟩
  case refine_8 => rw [hS b e2] at e; cases e
  all_goals (rw [hS b hb] at e; cases e)

theorem TkS.waits (h : TkS w0 W T A n cap V0 V Xs bs C hs g) (a : I2) : ∃ v, (lkp (mapT g.Wt) a).getD (.slice none 0 0) = v ∧ OwnZ w0 W v (lkP (plW g.Wt) a) ∧ ∀ b, v.ownBlock = some b → g.tg b = .w a := by
  cases hk : lkp (mapT g.Wt) a with
  | none =>
    rw [lkP_none (lkpT_none hk)]
    exact ⟨_, rfl, OwnZ.nil _ _, fun b e => (by cases e)⟩
  | some v =>
    obtain ⟨l, hl⟩ := lkpT_some hk
    rw [lkP_some h.keys hl]
    exact ⟨v, rfl, h.wl _ hl, fun b hb => h.gw _ hl b hb⟩
theorem TkS.dropped (h : TkS w0 W T A n cap V0 V Xs bs C hs g) {W' : World} (a : I2) (hM : MapW W' g.bW (delW (mapT g.Wt) a)) (hg : W.grownBy W' (some g.bW)) :
    ∃ g', TkS w0 W' T A n cap V0 V Xs bs C hs g' ∧ plW g'.Wt = dropP (plW g.Wt) a ∧ AskTo W g W' g' ∧ (∀ b, g.tg b = .w a → g'.tg b = .x) ∧ ∀ b, b < W.heap.size → g.tg b = .w a → W'.heap[b]? = W.heap[b]? := by
  have ht := tsb_grown hg
  have hS : ∀ b, some g.bW = some b → g.tg b = .m := fun b e => by injection e with e; rw [← e]; exact h.gM
  let re : Tg → Tg := fun u => match u with
    | .w c => if c = a then .x else .w c
    | u => u
  refine ⟨{ g with Wt := g.Wt.filter fun t => decide (t.1 ≠ a), tg := fun b => re (g.tg b) }, { tb := h.tbT ht (fun b hb e => ?_), vec := h.vec, kn := h.knT ht (fun b hb e => ?_), its := h.itsT ht (fun b hb e => ?_), came := h.cameT ht (fun b hb e => ?_), come := h.comeT ht (fun b hb e => ?_), ready := h.readyT ht (fun b hb e => ?_), wm := (mapT_drop g.Wt a).symm ▸ hM, wl := fun t ht' => h.wlT ht (fun b hb a e => ?_) t (List.mem_filter.1 ht').1, keys := h.keys.sublist ((List.filter_sublist).map _), low := h.lowT ht (fun b hb => by injection hb with hb; rw [← hb]; exact h.bbW), gT := ?_, gS := ?_, gM := ?_, gX := ?_, gC := ?_, go := ?_, gr := ?_, gw := ?_, bT := h.bT, bbS := h.bbS, bbW := h.bbW }, plW_drop _ _, ⟨ht.size, fun b hb e => ⟨ht.block b hb (fun e2 => ?_), ?_⟩⟩, fun b e => ?_, fun b hb e => ht.block b hb (fun e2 => ?_)⟩
  case refine_8 => show re (g.tg T) = .t; rw [h.gT]
  case refine_9 => show re (g.tg g.bS) = .s; rw [h.gS]
  case refine_10 => show re (g.tg g.bW) = .m; rw [h.gM]
  case refine_11 => intro b hb; show re (g.tg b) = .x; rw [h.gX b hb]
  case refine_12 => intro b hb; show re (g.tg b) = .c; rw [h.gC b hb]
  case refine_13 => intro b hb; show re (g.tg b) = .o; rw [h.go b hb]
  case refine_14 => intro b hb; show re (g.tg b) = .r; rw [h.gr b hb]
  case refine_15 =>
    intro t ht' b hb
    obtain ⟨h1, h2⟩ := List.mem_filter.1 ht'
    show re (g.tg b) = .w t.1
    rw [h.gw t h1 b hb]
    show (if t.1 = a then Tg.x else .w t.1) = .w t.1
    rw [if_neg (by simpa using h2)]
  case refine_16 => rw [hS b e2] at e; cases e
  case refine_17 => show re (g.tg b) = .x; rw [e]
  case refine_18 => show re (g.tg b) = .x; rw [e]; exact if_pos rfl
  case refine_19 => rw [hS b e2] at e; cases e
  all_goals (rw [hS b hb] at e; cases e)
end

end Go.Proofs.Ytdpmhhfpjpdfiaa

namespace Go.Proofs.Ytdpmhhfpjpdfiaa
open Go.ChangeShapes Go.WideShapes Go.ChangeAt Go.RowKit Go.Sort Go.Maps
set_option linter.unusedVariables false
set_option linter.unusedSimpArgs false
set_option linter.unusedSimpArgs false

def sumP : List (I2 × List Int) → Nat
  | [] => 0
  | t :: r => t.2.length + sumP r
theorem sumP_mem {p : List (I2 × List Int)} {t : I2 × List Int} (h : t ∈ p) : t.2.length ≤ sumP p := by
  induction p with
  | nil => cases h
  | cons s r ih =>
    rw [sumP]
    rcases List.mem_cons.1 h with rfl | h
    · omega
    · have := ih h; omega
theorem sumP_app (p q : List (I2 × List Int)) : sumP (p ++ q) = sumP p + sumP q := by
  induction p with
  | nil => simp [sumP]
  | cons s r ih => rw [List.cons_append, sumP, sumP, ih]; omega
theorem sumP_map {p : List (I2 × List Int)} {a : I2} (i : Int) (hn : (p.map (·.1)).Nodup) (h : a ∈ p.map (·.1)) : sumP (p.map fun t => if t.1 = a then (a, t.2 ++ [i]) else t) = sumP p + 1 := by
  induction p with
  | nil => cases h
  | cons s r ih =>
    have hn' : s.1 ∉ r.map (·.1) ∧ (r.map (·.1)).Nodup := List.nodup_cons.1 hn
    rw [List.map_cons, sumP, sumP]
    by_cases e : s.1 = a
    · rw [if_pos e]
      have : r.map (fun t => if t.1 = a then (a, t.2 ++ [i]) else t) = r := by
        have h1 : r.map (fun t => if t.1 = a then (a, t.2 ++ [i]) else t) = r.map id := List.map_congr_left fun t ht => if_neg fun e2 => hn'.1 (by rw [e, ← e2]; exact List.mem_map.2 ⟨t, ht, rfl⟩)
        rw [h1, List.map_id]
      rw [this]
      simp
      omega
    · rw [if_neg e, ih hn'.2 (by
        rcases List.mem_cons.1 h with h1 | h1
        · exact absurd h1.symm e
        · exact h1)]
      omega
theorem sumP_add {p : List (I2 × List Int)} (a : I2) (i : Int) (hn : (p.map (·.1)).Nodup) : sumP (addP p a i) = sumP p + 1 := by
  unfold addP
  split
  · rename_i h
    exact sumP_map i hn h
  · rw [sumP_app]; rfl
theorem sumP_drop {p : List (I2 × List Int)} (a : I2) (hn : (p.map (·.1)).Nodup) : sumP (dropP p a) + (lkP p a).length = sumP p := by
  induction p with
  | nil => rfl
  | cons s r ih =>
    have hn' : s.1 ∉ r.map (·.1) ∧ (r.map (·.1)).Nodup := List.nodup_cons.1 hn
    by_cases e : s.1 = a
    · have h1 : dropP (s :: r) a = r := by
        unfold dropP
        rw [List.filter_cons_of_neg (by simp [e])]
        refine List.filter_eq_self.2 fun t ht => ?_
        simp only [decide_eq_true_eq]
        intro e2
        exact hn'.1 (by rw [e, ← e2]; exact List.mem_map.2 ⟨t, ht, rfl⟩)
      have h2 : lkP (s :: r) a = s.2 := if_pos e
      rw [h1, h2, sumP]; omega
    · have h1 : dropP (s :: r) a = s :: dropP r a := List.filter_cons_of_pos (by simp [e])
      have h2 : lkP (s :: r) a = lkP r a := if_neg e
      have := ih hn'.2
      rw [h1, h2, sumP, sumP]; omega
theorem up_len (hs : List Int) (i : Int) : (upA hs.length (hs ++ [i]).toArray).toList.length = hs.length + 1 := by
  have := upA_size hs.length (hs ++ [i]).toArray
  simpa using this
theorem ask_tot (V : List (Int × Int)) (x : It) (i : Int) {p : List (I2 × List Int)} (hs : List Int) (hn : (p.map (·.1)).Nodup) : (askP V x i p hs).2.length + sumP (askP V x i p hs).1 = hs.length + sumP p + 1 := by
  unfold askP
  cases awI V x with
  | none => show (upA hs.length (hs ++ [i]).toArray).toList.length + sumP p = _; rw [up_len]; omega
  | some a => show hs.length + sumP (addP p a i) = _; rw [sumP_add a i hn]; omega

def askAll (V : List (Int × Int)) (Xs : List It) : List Int → List (I2 × List Int) × List Int → List (I2 × List Int) × List Int
  | [], s => s
  | m :: r, s => askAll V Xs r (match Xs[m.toNat]? with
    | some x => askP V x m s.1 s.2
    | none => s)
theorem askAll_snoc (V : List (Int × Int)) (Xs : List It) : ∀ (l : List Int) (m : Int) (s : List (I2 × List Int) × List Int) (x : It), Xs[m.toNat]? = some x → askAll V Xs (l ++ [m]) s = askP V x m (askAll V Xs l s).1 (askAll V Xs l s).2
  | [], m, s, x, h => by simp [askAll, h]
  | k :: l, m, s, x, h => by
    rw [List.cons_append, askAll, askAll, askAll_snoc V Xs l m _ x h]
theorem plW_keys (Wt : List (I2 × Value × List Int)) : (plW Wt).map (·.1) = Wt.map (·.1) := by
  unfold plW
  rw [List.map_map]; rfl

section
variable {w0 W : World} {T : Nat} {A : Option Addr} {n cap : Nat} {V0 V : List (Int × Int)} {Xs : List It} {bs : List Bool} {C : List It} {hs : List Int} {g : TkV}
theorem TkS.box (h : TkS w0 W T A n cap V0 V Xs bs C hs g) (o : Obj) : ∃ g', TkS w0 (W.alloc o) T A n cap V0 V Xs bs C hs g' ∧ g'.tg W.heap.size = .x ∧ g'.Wt = g.Wt ∧ g'.vX = g.vX ∧ g'.vC = g.vC ∧ g'.vo = g.vo ∧ g'.bS = g.bS ∧ g'.bW = g.bW ∧ AskTo W g (W.alloc o) g' := by
  have hx : Ext W (W.alloc o) := (Ext.refl W).alloc o
  have h' := h.ext hx
  have hk : ∀ b, b < W.heap.size → (if b = W.heap.size then Tg.x else g.tg b) = g.tg b := fun b hb => if_neg (by omega)
  obtain ⟨nn9, D, _, hD, _⟩ := h.kn
  refine ⟨{ g with tg := fun b => if b = W.heap.size then .x else g.tg b }, { tb := h'.tb, vec := h'.vec, kn := h'.kn, its := h'.its, came := h'.came, come := h'.come, ready := h'.ready, wm := h'.wm, wl := h'.wl, keys := h'.keys, low := h'.low, gT := (hk T h.tb.lt).trans h.gT, gS := (hk _ hD.lt).trans h.gS, gM := (hk _ h.wm.lt).trans h.gM, gX := fun b hb => (hk b (OwnI.lt h.its b hb).2).trans (h.gX b hb), gC := fun b hb => (hk b (World.ownsRow.lt h.came b hb).2).trans (h.gC b hb), go := fun b hb => (hk b (OwnI.lt h.come b hb).2).trans (h.go b hb), gr := fun b hb => (hk b (OwnZ.lt h.ready b hb).2).trans (h.gr b hb), gw := fun t ht b hb => (hk b (OwnZ.lt (h.wl t ht) b hb).2).trans (h.gw t ht b hb), bT := h.bT, bbS := h.bbS, bbW := h.bbW }, if_pos rfl, rfl, rfl, rfl, rfl, rfl, rfl, hx.size, fun b hb e => ⟨RowKit.Below.block hx b hb, (hk b hb).trans e⟩⟩
end
theorem BoxQ.of {W W' : World} {q : Nat} {a b : Int} (h : BoxQ W q a b) (e : W'.heap[q]? = W.heap[q]?) : BoxQ W' q a b := e.trans h
theorem BoxQ.ask {W W' : World} {g g' : TkV} {q : Nat} {a b : Int} (h : BoxQ W q a b) (ha : AskTo W g W' g') (e : g.tg q = .x) : BoxQ W' q a b ∧ g'.tg q = .x := ⟨h.of (ha.2 q h.lt e).1, (ha.2 q h.lt e).2⟩
theorem OwnZ.ask {w0 W W' : World} {g g' : TkV} {v : Value} {l : List Int} (h : OwnZ w0 W v l) (ha : AskTo W g W' g') (e : ∀ b, v.ownBlock = some b → g.tg b = .x) : OwnZ w0 W' v l := by
  refine ⟨h.1, ?_⟩
  have hlt := OwnZ.lt h
  rcases h.2 with h0 | ⟨q, cap, cur, e1, hbase, hgb, r⟩
  · exact .inl h0
  · exact .inr ⟨q, cap, cur, e1, hbase, (ha.2 q (Array.getElem?_eq_some_iff.1 hgb).1 (e q (by rw [e1]; rfl))).1.trans hgb, r⟩

theorem app_I (w0 w : World) (ty : TypeId) (v : Value) (l : List It) (hown : OwnI w0 w v l) (hx : w0.heap.size ≤ w.heap.size) (A : Option Addr) (m c : Nat) (r : List It) (hm : r.length = m) (hr : ItS w A r) (hb : l.length + r.length ≤ 100000) :
    ∃ v' w', (Builtin.append_ #[23, 23] ty #[v, .slice A m c]).run Try.prog w = .ok v' w' ∧ OwnI w0 w' v' (l ++ r) ∧ w.grownBy w' v.ownBlock ∧ (v'.ownBlock = v.ownBlock ∨ v'.ownBlock = some w.heap.size) := by
  obtain ⟨i, hi, hz0, hz1, hz2⟩ := info_parts infoI
  subst hm
  obtain ⟨v', w', hrun, h2, h3, h4⟩ := run_append_rowB (P := Try.prog) w w0.heap.size 23 ty 32 i _ 7 28 Try.underlying23 hi hz0 hz1 hz2 rfl (by omega) v l.length _ hown A r.length c _ (flat_len encI_len r) hr (flat_one_cell encI_one r)
    (by unfold maxLen; omega) (by omega) hx
  refine ⟨v', w', hrun, ?_, h3, h4⟩
  unfold OwnI OwnG
  rw [flat_append, List.length_append]
  exact h2
theorem step_appI {ops : Array Oper} {o : Oper} {a : Act} {w : World} {K : Act → World → Prop} {Q : Exit → Act → World → Prop} {E : Prop} (hg : o.guard = none) (s x : Operand)
    (hop : o.op = Op.call { callee := Callee.builtin Builtin.append, args := #[s, x], argTypes := #[23, 23] }) {v u v' : Value} {w' : World} (hs : a.eval s = v) (hx : a.eval x = u)
    (hrun : (Builtin.append_ #[23, 23] o.type #[v, u]).run Try.prog w = .ok v' w') (hK : K (a.put o.dst v') w') :
    if Region.wanted o (yielded ops a.tmps) = true then Oper.wp Try.prog o a w K Q else E := by
  have hw : Region.wanted o (yielded ops a.tmps) = true := by simp [Region.wanted, hg]
  rw [if_pos hw]
  unfold Oper.wp
  simp only [execOp, hop, resolve, invoke, builtin, Sem.run_bind, Sem.run_pure, Result.andThen_ok, List.map_toArray, List.map_cons, List.map_nil, hs, hx, hrun]
  exact hK
theorem step_del {ops : Array Oper} {o : Oper} {a : Act} {w : World} {K : Act → World → Prop} {Q : Exit → Act → World → Prop} {E : Prop} (hg : o.guard = none) (s x : Operand)
    (hop : o.op = Op.call { callee := Callee.builtin Builtin.delete, args := #[s, x], argTypes := #[53, 30] }) {v u v' : Value} {w' : World} (hs : a.eval s = v) (hx : a.eval x = u)
    (hrun : (Builtin.delete_ #[53, 30] o.type #[v, u]).run Try.prog w = .ok v' w') (hK : K (a.put o.dst v') w') :
    if Region.wanted o (yielded ops a.tmps) = true then Oper.wp Try.prog o a w K Q else E := by
  have hw : Region.wanted o (yielded ops a.tmps) = true := by simp [Region.wanted, hg]
  rw [if_pos hw]
  unfold Oper.wp
  simp only [execOp, hop, resolve, invoke, builtin, Sem.run_bind, Sem.run_pure, Result.andThen_ok, List.map_toArray, List.map_cons, List.map_nil, hs, hx, hrun]
  exact hK

end Go.Proofs.Ytdpmhhfpjpdfiaa

namespace Go.Proofs.Ytdpmhhfpjpdfiaa
open Go.ChangeShapes Go.WideShapes Go.ChangeAt Go.RowKit Go.Sort Go.Maps
set_option linter.unusedVariables false
set_option linter.unusedSimpArgs false
set_option linter.unusedSimpArgs false
attribute [local go_sem] World.cell?_alloc_some

theorem cell_on {W W' : World} {b o : Nat} {v : Value} (e : W'.heap[b]? = W.heap[b]?) (h : W.cell? ⟨b, o, none⟩ = some v) : W'.cell? ⟨b, o, none⟩ = some v := by
  simp only [World.cell?] at h ⊢
  rw [e]
  exact h

theorem lkP_mem {p : List (I2 × List Int)} {a : I2} {m : Int} (h : m ∈ lkP p a) : ∃ t ∈ p, m ∈ t.2 := by
  induction p with
  | nil => cases h
  | cons s r ih =>
    rw [lkP] at h
    split at h
    · exact ⟨s, by simp, h⟩
    · obtain ⟨t, h1, h2⟩ := ih h
      exact ⟨t, by simp [h1], h2⟩
def TakRel (w0 w7 : World) (T : Nat) (A : Option Addr) (n cap : Nat) (V0 V : List (Int × Int)) (Xs : List It) (bs : List Bool) (C : List It) (g9 : TkV) (l : List Int) (s0 : List (I2 × List Int) × List Int) (M : Nat) (vi : Value) (wr : World) : Prop :=
  ∃ (j : Nat) (gj : TkV) (hj : List Int), j ≤ M ∧ vi = .int .i64 (j : Nat) ∧ Hid (TkS w0 wr T A n cap V0 V Xs bs C hj gj) ∧ Hid (AskTo w7 g9 wr gj) ∧ Hid ((plW gj.Wt, hj) = askAll V Xs (l.take j) s0) ∧ Hid (hj.length + sumP (plW gj.Wt) + (M - j) ≤ 1000)
theorem OwnZ.blocks {w0 W W' : World} {v : Value} {l : List Int} (h : OwnZ w0 W v l) (e : ∀ b, b < W.heap.size → v.ownBlock = some b → W'.heap[b]? = W.heap[b]?) : OwnZ w0 W' v l := by
  refine ⟨h.1, ?_⟩
  rcases h.2 with h0 | ⟨q, cap, cur, e1, hbase, hgb, r⟩
  · exact .inl h0
  · exact .inr ⟨q, cap, cur, e1, hbase, (e q (Array.getElem?_eq_some_iff.1 hgb).1 (by rw [e1]; rfl)).trans hgb, r⟩

set_option maxRecDepth 100000 in
set_option maxHeartbeats 16000000 in
theorem take_any (w0 W : World) (T : Nat) (A : Option Addr) (n cap : Nat) (V0 V : List (Int × Int)) (Xs : List It) (bs : List Bool) (C : List It) (hs : List Int) (g : TkV) (i : Nat) (x : It)
    (h : TkS w0 W T A n cap V0 V Xs bs C hs g) (hn : V0.length = n) (hm : mayFrom 0 V0 = true) (hb : n ≤ 1000) (hmV : mayFrom 0 V = true) (hx : Xs[i]? = some x) (hnk : nextOf V x.c ≤ x.k) (hbl : bs.length = Xs.length) (hN : Xs.length ≤ 1000) (hC : C.length < 1000)
    (hwf : ∀ y ∈ Xs, wfI y ∧ okW y) (htot : hs.length + sumP (plW g.Wt) ≤ 1000) (hidx : ∀ t ∈ plW g.Wt, ∀ m ∈ t.2, 0 ≤ m ∧ m < (Xs.length : Int)) :
    Calls Try.prog 31 #[.pointer (some ⟨T, 0, none⟩), .int .i64 i] W fun e W' => e = .returned (.tuple #[]) ∧ ∃ g' hs', TkS w0 W' T A n cap V0 (setOf V x.c (x.k + 1)) Xs (bs.set i true) (C ++ [x]) hs' g' ∧
      (plW g'.Wt, hs') = askAll (setOf V x.c (x.k + 1)) Xs (lkP (plW g.Wt) (x.c, x.k)) (dropP (plW g.Wt) (x.c, x.k), hs) := by
  obtain ⟨N, hNe⟩ : ∃ N, Xs.length = N := ⟨_, rfl⟩
  have hiN : i < N := by rw [← hNe]; exact (List.getElem?_eq_some_iff.1 hx).1
  have hok := (hwf x (List.mem_of_getElem? hx)).2
  obtain ⟨gx, cX, hvX⟩ : ∃ gx cX, g.vX = .slice (some ⟨gx, 0, none⟩) N cX := by
    rcases h.its.2 with ⟨_, h0⟩ | ⟨gx, cX, cur, e, _⟩
    · rw [h0] at hNe; omega
    · exact ⟨gx, cX, by rw [e, hNe]⟩
  have hgxl : gx < W.heap.size := (OwnI.lt h.its gx (by rw [hvX]; rfl)).2
  have hgxt : g.tg gx = .x := h.gX gx (by rw [hvX]; rfl)
  have hIt := h.its
  rw [hvX] at hIt
  obtain ⟨Ax, cx', e1, _, hIS⟩ := hIt.open
  injection e1 with e1 eN eC
  rw [← e1] at hIS
  clear eN eC
  obtain ⟨b', o', x', e2, hx', hCx⟩ := hIS.at (k := i) (by rw [hNe]; exact hiN)
  injection e2 with e2
  injection e2 with e2 e3 _
  subst e2
  subst e3
  rw [hx] at hx'
  injection hx' with hx'
  subst hx'
  obtain ⟨c0, c1, c2, c3, c4, c5, c6⟩ := hCx
  simp only [Nat.zero_add] at c0 c1 c2 c3 c4 c5 c6
  obtain ⟨bC, cC, hvC, hbC⟩ : ∃ bC cC, g.vC = .slice (some ⟨bC, 0, none⟩) bs.length cC ∧ ∀ W' : World, W'.heap[bC]? = W.heap[bC]? → W'.cell? ⟨bC, i, none⟩ = some (.bool (bs.getD i false)) ∧ W'.frozen? ⟨bC, i, none⟩ = false := by
    rcases h.came.2 with ⟨_, h0⟩ | ⟨bC, cC, cur, e, _, hgb, _, _, _, hcur⟩
    · rw [h0] at hbl; omega
    · refine ⟨bC, cC, e, fun W' eW => ?_⟩
      rw [hgb] at eW
      have h1 : (cur.toList.take (bs.length * 1))[i]? = some (.bool (bs.getD i false)) := by
        rw [hcur, List.getElem?_map, List.getD_eq_getElem?_getD, List.getElem?_eq_getElem (by omega)]
        rfl
      rw [List.getElem?_take, if_pos (by omega), Array.getElem?_toList] at h1
      constructor
      · simp [World.cell?, eW, h1]
      · simp [World.frozen?, eW]
  have t2 : W.cell? ⟨T, 2, none⟩ = some (.slice (some ⟨gx, 0, none⟩) N cX) := by rw [← hvX]; exact h.tb.cell rfl
  have hi1 : (0 : Int) ≤ (i : Int) := by omega
  have hi2 : (i : Int) < (N : Int) := by omega
  obtain ⟨g1, h1, tg1, eWt1, evX1, evC1, evo1, ebS1, ebW1, a1⟩ := h.box (.cells #[Vu x.c, Vu x.k] 30)
  have d3 : (W.alloc (.cells #[Vu x.c, Vu x.k] 30)).cell? ⟨T, 3, none⟩ = some (.slice (some ⟨bC, 0, none⟩) N cC) := by rw [← hNe, ← hbl, ← hvC, ← evC1]; exact h1.tb.cell rfl
  obtain ⟨kb0, kb1⟩ := hbC (W.alloc (.cells #[Vu x.c, Vu x.k] 30)) (RowKit.Below.block (w' := W.alloc (.cells #[Vu x.c, Vu x.k] 30)) ((Ext.refl W).alloc _) bC (World.ownsRow.lt h.came bC (by rw [hvC]; rfl)).2)
  obtain ⟨h2, a2⟩ := h1.cameSet i (evC1.trans hvC)
  have hq2 := BoxQ.ask (g := g1) (q := W.heap.size) (a := x.c) (b := x.k) (heap_alloc_new W _) a2 tg1
  have a12 := a1.trans a2
  have hg12 := (a12.2 gx hgxl hgxt).1
  have u0 := cell_on hg12 c0
  have u1 := cell_on hg12 c1
  have u2 := cell_on hg12 c2
  have u3 := cell_on hg12 c3
  have u4 := cell_on hg12 c4
  have u5 := cell_on hg12 c5
  have u6 := cell_on hg12 c6
  have v4 : ((W.alloc (.cells #[Vu x.c, Vu x.k] 30)).setCell ⟨bC, i, none⟩ (.bool true)).cell? ⟨T, 4, none⟩ = some g1.vo := h2.tb.cell rfl
  have v2 : ((W.alloc (.cells #[Vu x.c, Vu x.k] 30)).setCell ⟨bC, i, none⟩ (.bool true)).cell? ⟨T, 2, none⟩ = some (.slice (some ⟨gx, 0, none⟩) N cX) := by rw [← hvX, ← evX1]; exact h2.tb.cell rfl
  obtain ⟨vo, hvo⟩ : ∃ vo, g1.vo = vo := ⟨_, rfl⟩
  rw [hvo] at v4
  replace h := Lib.hid h
  replace h1 := Lib.hid h1
  replace h2 := Lib.hid h2
  replace hNe := Lib.hid hNe
  replace hbl := Lib.hid hbl
  replace hvX := Lib.hid hvX
  replace hvC := Lib.hid hvC
  replace hx := Lib.hid hx
  replace hn := Lib.hid hn
  have eWt : plW g1.Wt = plW g.Wt := by rw [eWt1]
  replace eWt := Lib.hid eWt
  clear hg12 hbC eWt1 evC1 evo1 ebS1 ebW1 a1 a2 hIt e1 hIS hgxl hgxt
  replace evX1 := Lib.hid evX1
  replace hvo := Lib.hid hvo
  replace a12 := Lib.hid a12
  replace hq2 := Lib.hid hq2
  replace htot := Lib.hid htot
  replace hidx := Lib.hid hidx
  replace hwf := Lib.hid hwf
  replace hok := Lib.hid hok
  replace hnk := Lib.hid hnk
  go_enter Try.func31, Try.ntmps31
  go_upto_region 2 with fail
  generalize (W.alloc (.cells #[Vu x.c, Vu x.k] 30)).setCell ⟨bC, i, none⟩ (.bool true) = W2 at *
  generalize W.heap.size = pa at *
  clear d3 kb0 kb1 t2 c0 c1 c2 c3 c4 c5 c6
  have hxd : Ext W2 (W2.alloc (.cells #[Vu x.c, Vu x.k, Vu x.lc, Vu x.lk, Vu x.rc, Vu x.rk, .int .i32 x.ch] 32)).drew := ((Ext.refl W2).alloc _).drew
  have h2d := h2.out.ext hxd
  have a2d := a12.out.trans (AskTo.ext g1 hxd)
  have hz : ItS (W2.alloc (.cells #[Vu x.c, Vu x.k, Vu x.lc, Vu x.lk, Vu x.rc, Vu x.rk, .int .i32 x.ch] 32)).drew (some ⟨W2.heap.size, 0, none⟩) [x] := Row.ext (xs := flat encI [x]) (Row.new W2 #[Vu x.c, Vu x.k, Vu x.lc, Vu x.lk, Vu x.rc, Vu x.rk, .int .i32 x.ch] 32) ((Ext.refl _).drew)
  have hov := h2d.come
  rw [hvo.out] at hov
  obtain ⟨v3, W3, happ, ho3, g3, b3⟩ := app_I w0 _ 23 vo C hov h2d.low.size _ 1 1 [x] rfl hz (by simp only [List.length_cons, List.length_nil]; omega)
  obtain ⟨A3, c3, e3, _, _⟩ := ho3.open
  obtain ⟨L3, hL3⟩ : ∃ L3, (C ++ [x]).length = L3 := ⟨_, rfl⟩
  rw [hL3] at e3
  clear hL3
  subst e3
  have g3' := g3
  have b3' := b3
  rw [← hvo.out] at g3' b3'
  obtain ⟨g4, h4, ebS4, eWt4, a4, hMS⟩ := h2d.comeAdd ho3 g3' b3'
  obtain ⟨nn, D, hnn, hM, hV⟩ := h2d.kn
  have hM4 := hMS nn D hM
  have hT3 := h2d.tb.of ((tsb_grown g3').block T h2d.tb.lt (fun e => by have := h2d.go T e; rw [h2d.gT] at this; cases this))
  have w4 : W3.cell? ⟨T, 4, none⟩ = some vo := by rw [← hvo.out]; exact hT3.cell rfl
  have w4f := hT3.thaw 4
  have a24 := Lib.hid (a2d.trans a4)
  have hq4 := Lib.hid (BoxQ.ask hq2.out.1 ((AskTo.ext g1 hxd).trans a4) hq2.out.2)
  replace h4 := Lib.hid h4
  replace hM4 := Lib.hid hM4
  replace hV := Lib.hid hV
  replace ebS4 := Lib.hid ebS4
  have eWt4' := Lib.hid (show plW g4.Wt = plW g.Wt by rw [eWt4, eWt.out])
  clear hMS hM hT3 g3 g3' b3 b3' ho3 hov hz h2d hxd a2d a4 eWt4
  go_cut [22] (fun _ wx => wx = W3.setCell ⟨T, 4, none⟩ (.slice A3 L3 c3))
  case first =>
    go_region_law (refine step_appI rfl (.tmp 26) (.tmp 34) rfl (by simp [Act.eval, Act.put]) (by simp [Act.eval, Act.put]) happ ?_)
    all_goals (go_wp2_with fail; go_meet; exact rfl)
  case rest =>
    subst hcut
    clear happ w4 w4f u0 u1 u2 u3 u4 u5 u6 v4 v2
    generalize W3.setCell ⟨T, 4, none⟩ (.slice A3 L3 c3) = W4 at *
    obtain ⟨bS, hbS⟩ : ∃ bS, g4.bS = bS := ⟨_, rfl⟩
    have s0 : W4.cell? ⟨T, 0, none⟩ = some (.slice A n cap) := h4.out.tb.cell rfl
    have s1 : W4.cell? ⟨T, 1, none⟩ = some (.map (some bS)) := by rw [← hbS]; exact h4.out.tb.cell rfl
    obtain ⟨k0, k1, _, _⟩ := hq4.out.1.cells
    have hM5 : MapU W4.drew bS nn D := by
      rw [← hbS, ebS4.out]
      exact hM4.out.ext ((Ext.refl _).drew)
    have hok' := hok.out
    have hcall := Lib.hid (goOn_any A n cap bS nn D V0 V x.c x.k W4.drew hM5 hV.out hmV (by omega) hok'.1 hok'.2.1 hok'.2.2.1 hok'.2.2.2 hnk.out)
    replace hbS := Lib.hid hbS
    clear hM5 hok' hM4
    go_upto_region 3 with fail
    go_cut [38] (fun _ wx => ∃ D', Hid (TSb (fun b => b = bS) W4.drew wx) ∧ Hid (MapU wx bS (nn + 1) D') ∧ Hid (MapV D' V0 (setOf V x.c (x.k + 1))))
    case first =>
      go_region_with (go_at_call 43; refine hcall.out.mono ?_; rintro e w5 ⟨rfl, h51, D', h52, h53⟩)
      all_goals (go_wp2_with fail; go_meet; exact ⟨D', Lib.hid h51, Lib.hid h52, Lib.hid h53⟩)
    case rest =>
      obtain ⟨D', h51, h52, h53⟩ := hcut
      have h4d := h4.out.ext ((Ext.refl W4).drew)
      obtain ⟨h5, a5⟩ := h4d.gone (by rw [hbS.out]; exact h51.out) (by rw [hbS.out]; exact h52.out) h53.out (by rw [List.length_append, List.length_singleton]; omega)
      have a45 := (AskTo.ext g4 ((Ext.refl W4).drew)).trans a5
      have hq5 := Lib.hid (BoxQ.ask hq4.out.1 a45 hq4.out.2)
      have a15 := Lib.hid (a24.out.trans a45)
      clear h51 h52 h53 h4d a5 a45 hq4 hq2 a24 a12 hcall s0 s1 k0 k1 hbS hV
      generalize wc = W5 at *
      obtain ⟨V', hV'⟩ : ∃ V', setOf V x.c (x.k + 1) = V' := ⟨_, rfl⟩
      rw [hV'] at h5
      replace hV' := Lib.hid hV'
      obtain ⟨bW, hbW⟩ : ∃ bW, g4.bW = bW := ⟨_, rfl⟩
      have s6 : W5.cell? ⟨T, 6, none⟩ = some (.map (some bW)) := by rw [← hbW]; exact h5.tb.cell rfl
      obtain ⟨k0, k1, _, _⟩ := hq5.out.1.cells
      obtain ⟨v, hv, hov, htv⟩ := h5.waits (x.c, x.k)
      have hlook : (Instr.lookup 53 (.map (some bW)) (.agg #[.int .u32 x.c, .int .u32 x.k]) false).run Try.prog W5.drew = .ok v W5.drew := by
        rw [← hv, ← hbW]
        exact (h5.wm.ext ((Ext.refl W5).drew)).plain.look Try.underlying53 (x.c, x.k) (.slice none 0 0) (by kernel_rfl)
      have h6 := h5.ext ((Ext.refl W5).drew.drew)
      obtain ⟨w7, hdel, hM7, g7⟩ := h6.wm.drop (by unfold mapT; rw [List.map_map]; exact h6.keys) Try.underlying53 (x.c, x.k) 0
      obtain ⟨g9, h9, ep9, a9, tx9, hb9⟩ := h6.dropped (x.c, x.k) hM7 g7
      rw [hbW] at hdel
      dsimp only at hdel
      have hov9 : OwnZ w0 w7 v (lkP (plW g4.Wt) (x.c, x.k)) := hov.blocks (fun b hb e => hb9 b hb (htv b e))
      have htv9 : ∀ b, v.ownBlock = some b → g9.tg b = .x := fun b e => tx9 b (htv b e)
      rw [eWt4'.out] at ep9 hov9
      replace h9 := Lib.hid h9
      replace ep9 := Lib.hid ep9
      replace hov9 := Lib.hid hov9
      replace htv9 := Lib.hid htv9
      replace hbW := Lib.hid hbW
      replace h5 := Lib.hid h5
      clear h6 hM7 g7 hb9 tx9 a9 hov htv hv
      go_upto_region 4 with fail
      go_cut [5] (fun s wx => s = v ∧ wx = W5.drew)
      case first =>
        go_region
        all_goals (go_wp2_with fail; go_meet; exact ⟨rfl, rfl⟩)
      case rest =>
        obtain ⟨rfl, rfl⟩ := hcut
        go_upto_region 5 with fail
        go_cut [50] (fun _ wx => wx = w7)
        case first =>
          go_region_law (refine step_del rfl (.tmp 53) (.tmp 54) rfl (by simp [Act.eval, Act.put]) (by simp [Act.eval, Act.put]) hdel ?_)
          all_goals (go_wp2_with fail; go_meet; exact rfl)
        case rest =>
          subst hcut
          obtain ⟨l, hl⟩ : ∃ l, lkP (plW g.Wt) (x.c, x.k) = l := ⟨_, rfl⟩
          obtain ⟨p0, hp0⟩ : ∃ p0, dropP (plW g.Wt) (x.c, x.k) = p0 := ⟨_, rfl⟩
          have hsum := sumP_drop (p := plW g.Wt) (x.c, x.k) (by rw [plW_keys]; exact h.out.keys)
          have hlm : ∀ m ∈ l, 0 ≤ m ∧ m < (Xs.length : Int) := fun m hm9 => by
            rw [← hl] at hm9
            obtain ⟨t, h1, h2⟩ := lkP_mem hm9
            exact hidx.out t h1 m h2
          rw [hl, hp0] at hsum
          rw [hl] at hov9
          rw [hp0] at ep9
          obtain ⟨M, hMl⟩ : ∃ M, l.length = M := ⟨_, rfl⟩
          obtain ⟨Av, cv, ev, _, _⟩ := hov9.out.open
          rw [hMl] at ev hsum
          have ht9 : Hid (hs.length + sumP (plW g9.Wt) + (M - 0) ≤ 1000) := Lib.hid (by rw [ep9.out]; have := htot.out; omega)
          have hM0 : M ≤ 1000 := by have := htot.out; omega
          subst ev
          replace hMl := Lib.hid hMl
          replace hlm := Lib.hid hlm
          have hn' := hn.out
          replace hl := Lib.hid hl
          replace hp0 := Lib.hid hp0
          replace hn := Lib.hid hn
          clear hsum hidx htot hq5 hlook hdel s6 k0 k1 h5 a15 h1 h2 h4 hn'
          go_wp2_with fail
          go_loopw [57] (TakRel w0 wc T A n cap V0 V' Xs (bs.set i true) (C ++ [x]) g9 l (p0, hs) M) (fun vi _ => M - (intOf vi).toNat)
          case atStart => exact ⟨0, g9, hs, Nat.zero_le _, rfl, h9, Lib.hid (AskTo.refl _ _), Lib.hid (by rw [ep9.out]; rfl), ht9⟩
          case round =>
            obtain ⟨j, gj, hj, hjM, rfl, hTk, hat, hpl, htj⟩ := hrel
            by_cases hlt : j < M
            · obtain ⟨bl, ol, eAv, hcl⟩ : ∃ b o, Av = some ⟨b, o, none⟩ ∧ ∀ (k : Nat) (u : Value), (l.map Vi)[k]? = some u → wr.cell? ⟨b, o + k, none⟩ = some u := by
                have h1 := OwnZ.ask hov9.out hat.out htv9.out
                obtain ⟨A8, c8, e8, _, h8⟩ := h1.open
                injection e8 with e8 e9 e10
                rw [← e8] at h8
                exact h8 (by rw [List.length_map, hMl.out]; omega)
              obtain ⟨m, hmj⟩ : ∃ m, l[j]? = some m := ⟨l[j]'(by rw [hMl.out]; exact hlt), List.getElem?_eq_getElem _⟩
              obtain ⟨hm0, hm1⟩ := hlm.out m (List.mem_of_getElem? hmj)
              obtain ⟨mi, emi⟩ : ∃ mi : Nat, m = mi := ⟨m.toNat, by omega⟩
              subst emi
              obtain ⟨y, hy⟩ : ∃ y, Xs[mi]? = some y := ⟨Xs[mi]'(by omega), List.getElem?_eq_getElem _⟩
              have cm : wr.cell? ⟨bl, ol + j, none⟩ = some (.int .i64 (mi : Int)) := hcl j _ (by rw [List.getElem?_map, hmj]; rfl)
              have hsm : ∀ t ∈ gj.Wt, t.2.2.length ≤ 1000 := fun t ht => by
                have h1 : t.2.2.length ≤ sumP (plW gj.Wt) := sumP_mem (p := plW gj.Wt) (t := (t.1, t.2.2)) (List.mem_map.2 ⟨t, ht, rfl⟩)
                have := htj.out
                omega
              have hask := Lib.hid (ask_any w0 wr T A n cap V0 V' Xs (bs.set i true) (C ++ [x]) hj gj mi y hTk.out hn.out hm hb hy hN (hwf.out y (List.mem_of_getElem? hy)).1 (by have := htj.out; omega) hsm)
              have hst : Xs[((mi : Nat) : Int).toNat]? = some y := by rw [Int.toNat_natCast]; exact hy
              have hsn := Lib.hid (askAll_snoc V' Xs (l.take j) (mi : Int) (p0, hs) y hst)
              have htk := Lib.hid (show l.take (j + 1) = l.take j ++ [(mi : Int)] by rw [List.take_add_one, hmj]; rfl)
              have htt := Lib.hid (ask_tot V' y (mi : Int) (p := plW gj.Wt) hj (by rw [plW_keys]; exact hTk.out.keys))
              have hltH := Lib.hid hlt
              have hjl0 : (0 : Int) ≤ (j : Int) := by omega
              have hjl1 : (j : Int) < (M : Int) := by omega
              have hjl2 : (j : Int) < 1000 := by omega
              subst eAv
              clear hst hsm hcl hmj hy hm0 hm1
              go_wp2_with fail
              refine hask.out.mono ?_
              rintro e w' ⟨rfl, g', hs', hT', ha', hp'⟩
              replace hT' := Lib.hid hT'
              replace ha' := Lib.hid ha'
              replace hp' := Lib.hid hp'
              go_wp2
              go_roundw
              case rel =>
                refine ⟨j + 1, g', hs', hltH.out, by go_num, hT', Lib.hid (hat.out.trans ha'.out), Lib.hid ?_, Lib.hid ?_⟩
                · rw [htk.out, hsn.out, ← hpl.out]; exact hp'.out
                · have h9 := htt.out
                  rw [← hp'.out] at h9
                  have h8 := htj.out
                  have h7 := hltH.out
                  have h9' : hs'.length + sumP (plW g'.Wt) = hj.length + sumP (plW gj.Wt) + 1 := h9
                  omega
              case measure => have := hltH.out; simp [intOf]; omega
            · go_wp2_with fail
              go_end0
              exact ⟨rfl, gj, hj, by rw [hV'.out]; exact hTk.out, by rw [hV'.out, hl.out, hp0.out, hpl.out, List.take_of_length_le (by rw [hMl.out]; omega)]⟩

end Go.Proofs.Ytdpmhhfpjpdfiaa

namespace Go.Proofs.Ytdpmhhfpjpdfiaa
open Go.Sort
set_option linter.unusedVariables false
set_option linter.unusedSimpArgs false
set_option linter.unusedSimpArgs false

theorem pop_list {hs : List Int} {n : Nat} {m : Int} (hl : hs.length = n + 1) (hp : HeapA hs.length hs.toArray) (hm : hs[0]? = some m) :
    ((popA hs.toArray).toList.take n).length = n ∧ HeapA n ((popA hs.toArray).toList.take n).toArray ∧ hs.Perm (m :: (popA hs.toArray).toList.take n) ∧ ∀ k ∈ hs, m ≤ k := by
  rw [hl] at hp
  obtain ⟨h1, h2, h3, h4⟩ := pop_heap (d := hs.toArray) (n := n) (by simpa using hl) hp
  have hm0 : hs.toArray[0]! = m := by
    rw [getElem!_pos _ 0 (by simp; omega)]
    have := (List.getElem?_eq_some_iff.1 hm).2
    simpa using this
  rw [hm0] at h2
  generalize popA hs.toArray = P at *
  have hPl : P.toList.length = n + 1 := by simpa using h1
  have hlast : P.toList.drop n = [m] := by
    have e := List.drop_eq_getElem_cons (l := P.toList) (i := n) (by omega)
    rw [e, List.drop_eq_nil_of_le (by omega)]
    rw [getElem!_pos P n (by omega)] at h2
    simp [h2]
  refine ⟨by rw [List.length_take]; omega, ?_, ?_, ?_⟩
  · intro k k0 kn
    have hget : ∀ j, j < n → (P.toList.take n).toArray[j]! = P[j]! := fun j hj => by
      rw [getElem!_pos _ j (by simp; omega), getElem!_pos P j (by omega)]
      simp
    rw [hget k kn, hget _ (by omega)]
    exact h3 k k0 kn
  · have e : P.toList = P.toList.take n ++ [m] := by rw [← hlast]; exact (List.take_append_drop n _).symm
    have h5 : P.toList.Perm hs := by simpa using h4
    rw [e] at h5
    exact h5.symm.trans (List.perm_append_comm)
  · intro k hk
    obtain ⟨j, hj⟩ := List.getElem?_of_mem hk
    have hjl := (List.getElem?_eq_some_iff.1 hj).1
    have := heap_least hp (i := j) (by omega)
    rw [hm0, getElem!_pos _ j (by simpa using hjl)] at this
    have h6 := (List.getElem?_eq_some_iff.1 hj).2
    simp only [List.getElem_toArray] at this
    omega

def flaP : List (I2 × List Int) → List Int
  | [] => []
  | t :: r => t.2 ++ flaP r
theorem flaP_app (p q : List (I2 × List Int)) : flaP (p ++ q) = flaP p ++ flaP q := by
  induction p with
  | nil => rfl
  | cons s r ih => rw [List.cons_append, flaP, flaP, ih, List.append_assoc]
theorem flaP_mem {p : List (I2 × List Int)} {m : Int} : m ∈ flaP p ↔ ∃ t ∈ p, m ∈ t.2 := by
  induction p with
  | nil => simp [flaP]
  | cons s r ih => simp [flaP, ih]
theorem flaP_len (p : List (I2 × List Int)) : (flaP p).length = sumP p := by
  induction p with
  | nil => rfl
  | cons s r ih => rw [flaP, sumP, List.length_append, ih]
theorem map_same {r : List (I2 × List Int)} {a : I2} (i : Int) (h : a ∉ r.map (·.1)) : r.map (fun t => if t.1 = a then (a, t.2 ++ [i]) else t) = r := by
  have h1 : r.map (fun t => if t.1 = a then (a, t.2 ++ [i]) else t) = r.map id := List.map_congr_left fun t ht => if_neg fun e2 => h (by rw [← e2]; exact List.mem_map.2 ⟨t, ht, rfl⟩)
  rw [h1, List.map_id]
theorem map_perm {p : List (I2 × List Int)} {a : I2} (i : Int) (hn : (p.map (·.1)).Nodup) (h : a ∈ p.map (·.1)) : (flaP (p.map fun t => if t.1 = a then (a, t.2 ++ [i]) else t)).Perm (i :: flaP p) := by
  induction p with
  | nil => cases h
  | cons s r ih =>
    have hn' : s.1 ∉ r.map (·.1) ∧ (r.map (·.1)).Nodup := List.nodup_cons.1 hn
    rw [List.map_cons, flaP, flaP]
    by_cases e : s.1 = a
    · rw [if_pos e, map_same i (by rw [← e]; exact hn'.1)]
      show ((s.2 ++ [i]) ++ flaP r).Perm (i :: (s.2 ++ flaP r))
      rw [List.append_assoc]
      exact List.perm_middle
    · rw [if_neg e]
      have := ih hn'.2 (by
        rcases List.mem_cons.1 h with h1 | h1
        · exact absurd h1.symm e
        · exact h1)
      exact (this.append_left s.2).trans List.perm_middle
theorem addP_perm {p : List (I2 × List Int)} (a : I2) (i : Int) (hn : (p.map (·.1)).Nodup) : (flaP (addP p a i)).Perm (i :: flaP p) := by
  unfold addP
  split
  · rename_i h
    exact map_perm i hn h
  · rw [flaP_app]
    exact List.perm_append_comm
theorem addP_keys {p : List (I2 × List Int)} (a : I2) (i : Int) (hn : (p.map (·.1)).Nodup) : ((addP p a i).map (·.1)).Nodup := by
  unfold addP
  split
  · rw [List.map_map]
    have : p.map ((fun t : I2 × List Int => t.1) ∘ fun t => if t.1 = a then (a, t.2 ++ [i]) else t) = p.map (·.1) := by
      refine List.map_congr_left fun t _ => ?_
      simp only [Function.comp]
      split
      · rename_i e; exact e.symm
      · rfl
    rw [this]
    exact hn
  · rename_i h
    rw [List.map_append]
    refine List.nodup_append.2 ⟨hn, by simp, fun x hx y hy => ?_⟩
    simp at hy
    subst hy
    exact fun e => h (by rw [← e]; exact hx)
theorem addP_mem {p : List (I2 × List Int)} {a : I2} {i : Int} {t : I2 × List Int} (h : t ∈ addP p a i) {m : Int} (hm : m ∈ t.2) : (∃ s ∈ p, s.1 = t.1 ∧ m ∈ s.2) ∨ (m = i ∧ t.1 = a) := by
  unfold addP at h
  split at h
  · obtain ⟨s, hs, e⟩ := List.mem_map.1 h
    split at e
    · rename_i e1
      subst e
      rcases List.mem_append.1 hm with h1 | h1
      · exact .inl ⟨s, hs, e1, h1⟩
      · exact .inr ⟨by simpa using h1, rfl⟩
    · subst e
      exact .inl ⟨s, hs, rfl, hm⟩
  · rcases List.mem_append.1 h with h1 | h1
    · exact .inl ⟨t, h1, rfl, hm⟩
    · simp at h1
      subst h1
      exact .inr ⟨by simpa using hm, rfl⟩
theorem dropP_perm {p : List (I2 × List Int)} (a : I2) (hn : (p.map (·.1)).Nodup) : (lkP p a ++ flaP (dropP p a)).Perm (flaP p) := by
  induction p with
  | nil => exact .refl _
  | cons s r ih =>
    have hn' : s.1 ∉ r.map (·.1) ∧ (r.map (·.1)).Nodup := List.nodup_cons.1 hn
    by_cases e : s.1 = a
    · have h1 : dropP (s :: r) a = r := by
        unfold dropP
        rw [List.filter_cons_of_neg (by simp [e])]
        refine List.filter_eq_self.2 fun t ht => ?_
        simp only [decide_eq_true_eq]
        intro e2
        exact hn'.1 (by rw [e, ← e2]; exact List.mem_map.2 ⟨t, ht, rfl⟩)
      have h2 : lkP (s :: r) a = s.2 := if_pos e
      rw [h1, h2]
      exact .refl _
    · have h1 : dropP (s :: r) a = s :: dropP r a := List.filter_cons_of_pos (by simp [e])
      have h2 : lkP (s :: r) a = lkP r a := if_neg e
      rw [h1, h2, flaP, flaP]
      have := (ih hn'.2).append_left s.2
      refine List.Perm.trans ?_ this
      rw [← List.append_assoc, ← List.append_assoc]
      exact (List.perm_append_comm).append_right _

def blk (V : List (Int × Int)) (x : It) (a : I2) : Prop := (a = (x.c, x.k - 1) ∧ nextOf V x.c < x.k) ∨ (a = (x.lc, x.lk) ∧ nohI V x.lc x.lk = false) ∨ (a = (x.rc, x.rk) ∧ nohI V x.rc x.rk = false)
theorem noh_false {V : List (Int × Int)} {a b : Int} : nohI V a b = false ↔ a ≠ 0 ∧ nextOf V a ≤ b := by
  unfold nohI
  simp
theorem blk_rdy {V : List (Int × Int)} {x : It} {a : I2} (h : blk V x a) : rdyI V x = false := by
  rcases hr : rdyI V x with _ | _
  · rfl
  · exfalso
    obtain ⟨r1, r2, r3⟩ := rdy_iff.1 hr
    rcases h with ⟨_, h⟩ | ⟨_, h⟩ | ⟨_, h⟩
    · omega
    · rw [noh_false] at h; omega
    · rw [noh_false] at h; omega
theorem aw_blk {V : List (Int × Int)} {x : It} {a : I2} (h : awI V x = some a) (h0 : 0 ≤ nextOf V x.c) (h1 : nextOf V x.c ≤ x.k) (h2 : x.k ≤ 4294967295) : blk V x a := by
  unfold awI at h
  split at h
  · split at h
    · split at h
      · cases h
      · rename_i e
        injection h with h
        exact .inr (.inr ⟨h.symm, by simpa using e⟩)
    · rename_i e
      injection h with h
      exact .inr (.inl ⟨h.symm, by simpa using e⟩)
  · rename_i e
    injection h with h
    refine .inl ⟨?_, by omega⟩
    rw [← h]
    have : IntKind.u32.wrap (x.k - 1) = x.k - 1 := by
      simp [IntKind.wrap, IntKind.signed, IntKind.bits]
      omega
    rw [this]

structure WInv (V : List (Int × Int)) (Xs : List It) (p : List (I2 × List Int)) (hs : List Int) : Prop where
  keys : (p.map (·.1)).Nodup
  heap : HeapA hs.length hs.toArray
  rdy : ∀ m ∈ hs, ∀ x, Xs[m.toNat]? = some x → rdyI V x = true
  wait : ∀ t ∈ p, ∀ m ∈ t.2, ∀ x, Xs[m.toNat]? = some x → blk V x t.1
theorem WInv.none (V : List (Int × Int)) (Xs : List It) : WInv V Xs [] [] := ⟨by simp, fun k _ h => absurd h (by simp), by simp, by simp⟩
theorem WInv.ask {V : List (Int × Int)} {Xs : List It} {p : List (I2 × List Int)} {hs : List Int} (h : WInv V Xs p hs) {m : Int} {x : It} (hx : Xs[m.toNat]? = some x) (h0 : 0 ≤ nextOf V x.c) (h1 : nextOf V x.c ≤ x.k) (h2 : x.k ≤ 4294967295) :
    WInv V Xs (askP V x m p hs).1 (askP V x m p hs).2 ∧ ((askP V x m p hs).2 ++ flaP (askP V x m p hs).1).Perm (m :: (hs ++ flaP p)) := by
  unfold askP
  have har := aw_rdy V x
  cases ha : awI V x with
  | none =>
    rw [ha] at har
    have hr : rdyI V x = true := by simpa using har.symm
    have hpu := push_heap (d := hs.toArray) (by simpa using h.heap) m
    have e1 : hs.toArray.push m = (hs ++ [m]).toArray := by simp
    rw [e1] at hpu
    have e2 : hs.toArray.size = hs.length := by simp
    rw [e2] at hpu
    have hP : (upA hs.length (hs ++ [m]).toArray).toList.Perm (hs ++ [m]) := by simpa using hpu.2
    refine ⟨⟨h.keys, ?_, fun k hk y hy => ?_, h.wait⟩, ?_⟩
    · show HeapA (upA hs.length (hs ++ [m]).toArray).toList.length (upA hs.length (hs ++ [m]).toArray).toList.toArray
      rw [up_len]
      simpa using hpu.1
    · rcases List.mem_append.1 (hP.mem_iff.1 hk) with h3 | h3
      · exact h.rdy k h3 y hy
      · simp at h3
        subst h3
        rw [hx] at hy
        injection hy with hy
        rw [← hy]; exact hr
    · show ((upA hs.length (hs ++ [m]).toArray).toList ++ flaP p).Perm _
      refine (hP.append_right _).trans ?_
      rw [List.append_assoc]
      exact List.perm_middle
  | some a =>
    have hb := aw_blk ha h0 h1 h2
    refine ⟨⟨addP_keys a m h.keys, h.heap, h.rdy, fun t ht k hk y hy => ?_⟩, ?_⟩
    · rcases addP_mem ht hk with ⟨s, hs', e, h3⟩ | ⟨e, e3⟩
      · rw [← e]; exact h.wait s hs' k h3 y hy
      · rw [e, hx] at hy
        injection hy with hy
        rw [← hy, e3]; exact hb
    · show (hs ++ flaP (addP p a m)).Perm _
      exact ((addP_perm a m h.keys).append_left hs).trans List.perm_middle
theorem WInv.all {V : List (Int × Int)} {Xs : List It} : ∀ (l : List Int) {s : List (I2 × List Int) × List Int} (h : WInv V Xs s.1 s.2) (hl : ∀ m ∈ l, ∃ x, Xs[m.toNat]? = some x ∧ 0 ≤ nextOf V x.c ∧ nextOf V x.c ≤ x.k ∧ x.k ≤ 4294967295),
    WInv V Xs (askAll V Xs l s).1 (askAll V Xs l s).2 ∧ ((askAll V Xs l s).2 ++ flaP (askAll V Xs l s).1).Perm (l ++ (s.2 ++ flaP s.1))
  | [], s, h, _ => ⟨h, .refl _⟩
  | m :: l, s, h, hl => by
    obtain ⟨x, hx, h0, h1, h2⟩ := hl m (by simp)
    obtain ⟨h3, h4⟩ := h.ask hx h0 h1 h2
    rw [askAll, hx]
    obtain ⟨h5, h6⟩ := WInv.all l (s := askP V x m s.1 s.2) h3 (fun k hk => hl k (by simp [hk]))
    refine ⟨h5, h6.trans ((h4.append_left l).trans ?_)⟩
    exact List.perm_middle

theorem blk_on {V : List (Int × Int)} {x y : It} {a : I2} (hm : mayFrom 0 V = true) (hx : x.k = nextOf V x.c) (h : blk V y a) (ha : a ≠ (x.c, x.k)) : blk (setOf V x.c (x.k + 1)) y a := by
  have hn := fun d => set_next x.c (x.k + 1) d hm
  rcases h with ⟨e, h⟩ | ⟨e, h⟩ | ⟨e, h⟩
  · refine .inl ⟨e, ?_⟩
    rw [hn]
    split
    · rename_i e2
      have : y.k - 1 ≠ x.k := fun e3 => ha (by rw [e, e2, e3])
      rw [e2] at h
      omega
    · exact h
  all_goals
    rw [noh_false] at h
    first | refine .inr (.inl ⟨e, noh_false.2 ⟨h.1, ?_⟩⟩) | refine .inr (.inr ⟨e, noh_false.2 ⟨h.1, ?_⟩⟩)
    rw [hn]
    split
    · rename_i e2
      have h3 := h.2
      rw [e2, ← hx] at h3
      rcases Int.lt_or_eq_of_le h3 with h4 | h4
      · omega
      · exact absurd (by rw [e, e2, h4]) ha
    · exact h.2
theorem rdy_on {V : List (Int × Int)} {x y : It} (hm : mayFrom 0 V = true) (hx : x.k = nextOf V x.c) (h : rdyI V y = true) (hne : iid y ≠ iid x) : rdyI (setOf V x.c (x.k + 1)) y = true := by
  have hn := fun d => set_next x.c (x.k + 1) d hm
  obtain ⟨r1, r2, r3⟩ := rdy_iff.1 h
  refine rdy_iff.2 ⟨?_, ?_, ?_⟩
  · rw [hn, if_neg (fun e => hne (by unfold iid; rw [e, r1, e, ← hx]))]
    exact r1
  · rcases r2 with r2 | r2
    · exact .inl r2
    · refine .inr ?_
      rw [hn]
      split
      · rename_i e; rw [e, ← hx] at r2; omega
      · exact r2
  · rcases r3 with r3 | r3
    · exact .inl r3
    · refine .inr ?_
      rw [hn]
      split
      · rename_i e; rw [e, ← hx] at r3; omega
      · exact r3
theorem WInv.gone {V : List (Int × Int)} {Xs : List It} {p : List (I2 × List Int)} {hs : List Int} (h : WInv V Xs p hs) {x : It} (hm : mayFrom 0 V = true) (hx : x.k = nextOf V x.c) (hne : ∀ m ∈ hs, ∀ y, Xs[m.toNat]? = some y → iid y ≠ iid x) :
    WInv (setOf V x.c (x.k + 1)) Xs (dropP p (x.c, x.k)) hs :=
  ⟨h.keys.sublist ((List.filter_sublist).map _), h.heap, fun m hm' y hy => rdy_on hm hx (h.rdy m hm' y hy) (hne m hm' y hy), fun t ht m hm' y hy => by
    obtain ⟨h1, h2⟩ := List.mem_filter.1 ht
    exact blk_on hm hx (h.wait t h1 m hm' y hy) (by simpa using h2)⟩

end Go.Proofs.Ytdpmhhfpjpdfiaa

namespace Go.Proofs.Ytdpmhhfpjpdfiaa
open Go.Sort
set_option linter.unusedVariables false
set_option linter.unusedSimpArgs false
set_option linter.unusedSimpArgs false

def ncs : List Bool → List It → List It
  | b :: bs, x :: xs => if b then ncs bs xs else x :: ncs bs xs
  | _, _ => []
def nci : Nat → List Bool → List Int
  | _, [] => []
  | k, b :: bs => if b then nci (k + 1) bs else (k : Int) :: nci (k + 1) bs
theorem nci_mem : ∀ {bs : List Bool} {k : Nat} {m : Int}, m ∈ nci k bs ↔ ∃ i : Nat, m = ((k + i : Nat) : Int) ∧ bs[i]? = some false
  | [], k, m => by simp [nci]
  | b :: bs, k, m => by
    have ih := nci_mem (bs := bs) (k := k + 1) (m := m)
    rw [nci]
    constructor
    · intro h
      cases b with
      | true =>
        obtain ⟨i, h1, h2⟩ := ih.1 (by simpa using h)
        exact ⟨i + 1, by rw [h1]; congr 1; omega, by simpa using h2⟩
      | false =>
        rcases List.mem_cons.1 (by simpa using h) with h | h
        · exact ⟨0, by simpa using h, rfl⟩
        · obtain ⟨i, h1, h2⟩ := ih.1 h
          exact ⟨i + 1, by rw [h1]; congr 1; omega, by simpa using h2⟩
    · rintro ⟨i, h1, h2⟩
      cases i with
      | zero =>
        have : b = false := by simpa using h2
        subst this
        simp [h1]
      | succ i =>
        have h3 : m ∈ nci (k + 1) bs := ih.2 ⟨i, by rw [h1]; congr 1; omega, by simpa using h2⟩
        split
        · exact h3
        · exact List.mem_cons_of_mem _ h3
theorem nci_set : ∀ {bs : List Bool} {k i : Nat}, bs[i]? = some false → (nci k bs).Perm (((k + i : Nat) : Int) :: nci k (bs.set i true))
  | [], k, i, h => by simp at h
  | b :: bs, k, 0, h => by
    have : b = false := by simpa using h
    subst this
    simp [nci]
  | b :: bs, k, i + 1, h => by
    have ih := nci_set (bs := bs) (k := k + 1) (i := i) (by simpa using h)
    rw [show k + 1 + i = k + (i + 1) by omega] at ih
    rw [List.set_cons_succ, nci, nci]
    split
    · exact ih
    · exact (ih.cons _).trans (.swap _ _ _)
theorem nci_nodup : ∀ {bs : List Bool} {k : Nat}, (nci k bs).Nodup
  | [], k => by simp [nci]
  | b :: bs, k => by
    have ih := nci_nodup (bs := bs) (k := k + 1)
    rw [nci]
    split
    · exact ih
    · refine List.nodup_cons.2 ⟨fun h => ?_, ih⟩
      obtain ⟨i, h1, _⟩ := nci_mem.1 h
      omega
theorem nci_len : ∀ (bs : List Bool) (k : Nat), (nci k bs).length ≤ bs.length
  | [], k => by simp [nci]
  | b :: bs, k => by
    have := nci_len bs (k + 1)
    rw [nci]
    split <;> simp <;> omega
theorem ncs_mem : ∀ {bs : List Bool} {xs : List It} {x : It}, x ∈ ncs bs xs → ∃ i : Nat, bs[i]? = some false ∧ xs[i]? = some x
  | [], xs, x, h => by simp [ncs] at h
  | b :: bs, [], x, h => by simp [ncs] at h
  | b :: bs, y :: xs, x, h => by
    rw [ncs] at h
    cases b with
    | true =>
      obtain ⟨i, h1, h2⟩ := ncs_mem (by simpa using h)
      exact ⟨i + 1, by simpa using h1, by simpa using h2⟩
    | false =>
      rcases List.mem_cons.1 (by simpa using h) with rfl | h
      · exact ⟨0, rfl, rfl⟩
      · obtain ⟨i, h1, h2⟩ := ncs_mem h
        exact ⟨i + 1, by simpa using h1, by simpa using h2⟩
theorem fst_ncs {v : List (Int × Int)} : ∀ {bs : List Bool} {xs : List It} {i : Nat} {x : It}, bs[i]? = some false → xs[i]? = some x → rdyI v x = true → (∀ j y, j < i → bs[j]? = some false → xs[j]? = some y → rdyI v y = false) →
    fstR v (ncs bs xs) = some (x, ncs (bs.set i true) xs)
  | [], xs, i, x, h, _, _, _ => by simp at h
  | b :: bs, [], i, x, _, h, _, _ => by simp at h
  | b :: bs, y :: xs, 0, x, h, h2, hr, _ => by
    have e1 : b = false := by simpa using h
    have e2 : y = x := by simpa using h2
    subst e1 e2
    simp [ncs, fstR, hr]
  | b :: bs, y :: xs, i + 1, x, h, h2, hr, hl => by
    have ih := fst_ncs (v := v) (bs := bs) (xs := xs) (i := i) (x := x) (by simpa using h) (by simpa using h2) hr (fun j z hj hb hz => hl (j + 1) z (by omega) (by simpa using hb) (by simpa using hz))
    rw [List.set_cons_succ, ncs, ncs]
    cases b with
    | true => simpa using ih
    | false =>
      have hy := hl 0 y (by omega) rfl rfl
      simp [fstR, hy, ih]

structure TInv (V : List (Int × Int)) (Xs : List It) (bs : List Bool) (p : List (I2 × List Int)) (hs : List Int) : Prop where
  w : WInv V Xs p hs
  len : bs.length = Xs.length
  perm : (hs ++ flaP p).Perm (nci 0 bs)
  nxt : ∀ (i : Nat) (x : It), bs[i]? = some false → Xs[i]? = some x → nextOf V x.c ≤ x.k
  may : mayFrom 0 V = true
theorem TInv.at {V : List (Int × Int)} {Xs : List It} {bs : List Bool} {p : List (I2 × List Int)} {hs : List Int} (h : TInv V Xs bs p hs) {m : Int} (hm : m ∈ hs ++ flaP p) : ∃ (i : Nat) (x : It), m = i ∧ bs[i]? = some false ∧ Xs[i]? = some x := by
  obtain ⟨i, h1, h2⟩ := nci_mem.1 (h.perm.mem_iff.1 hm)
  have hi := (List.getElem?_eq_some_iff.1 h2).1
  rw [h.len] at hi
  exact ⟨i, Xs[i], by rw [h1]; congr 1; omega, h2, List.getElem?_eq_getElem hi⟩
theorem TInv.tot {V : List (Int × Int)} {Xs : List It} {bs : List Bool} {p : List (I2 × List Int)} {hs : List Int} (h : TInv V Xs bs p hs) : hs.length + sumP p ≤ Xs.length := by
  have h1 := h.perm.length_eq
  rw [List.length_append, flaP_len] at h1
  have := nci_len bs 0
  rw [h.len] at this
  omega
theorem TInv.next {V : List (Int × Int)} {Xs : List It} {bs : List Bool} {p : List (I2 × List Int)} {hs : List Int} (h : TInv V Xs bs p hs) {n : Nat} {m : Int} (hl : hs.length = n + 1) (hm : hs[0]? = some m)
    (hap : ∀ (i j : Nat) (x y : It), Xs[i]? = some x → Xs[j]? = some y → iid x = iid y → i = j) (hwf : ∀ x ∈ Xs, okW x) :
    ∃ (i : Nat) (x : It), m = i ∧ Xs[i]? = some x ∧ bs[i]? = some false ∧ fstR V (ncs bs Xs) = some (x, ncs (bs.set i true) Xs) ∧
      ((popA hs.toArray).toList.take n).length = n ∧
      TInv (setOf V x.c (x.k + 1)) Xs (bs.set i true) (askAll (setOf V x.c (x.k + 1)) Xs (lkP p (x.c, x.k)) (dropP p (x.c, x.k), (popA hs.toArray).toList.take n)).1 (askAll (setOf V x.c (x.k + 1)) Xs (lkP p (x.c, x.k)) (dropP p (x.c, x.k), (popA hs.toArray).toList.take n)).2 := by
  obtain ⟨q1, q2, q3, q4⟩ := pop_list hl h.w.heap hm
  generalize (popA hs.toArray).toList.take n = h1 at *
  have hmem : m ∈ hs := q3.mem_iff.2 (by simp)
  obtain ⟨i, x, rfl, hbi, hxi⟩ := h.at (m := m) (by simp [hmem])
  have hto : ((i : Nat) : Int).toNat = i := Int.toNat_natCast i
  have hrd : rdyI V x = true := h.w.rdy _ hmem x (by rw [hto]; exact hxi)
  have hxk : x.k = nextOf V x.c := (rdy_iff.1 hrd).1
  have hnd : (hs ++ flaP p).Nodup := h.perm.nodup_iff.2 nci_nodup
  have hnd2 : ((i : Int) :: (h1 ++ flaP p)).Nodup := ((q3.append_right (flaP p)).nodup_iff).1 hnd
  have hperm1 : (h1 ++ flaP p).Perm (nci 0 (bs.set i true)) := by
    have e1 : ((i : Int) :: (h1 ++ flaP p)).Perm (nci 0 bs) := (q3.append_right (flaP p)).symm.trans h.perm
    have e2 := nci_set (k := 0) hbi
    rw [Nat.zero_add] at e2
    exact (e1.trans e2).cons_inv
  have hother : ∀ k ∈ h1 ++ flaP p, ∃ (j : Nat) (y : It), k = j ∧ j ≠ i ∧ bs[j]? = some false ∧ Xs[j]? = some y := fun k hk => by
    obtain ⟨j, y, e, hb, hy⟩ := h.at (m := k) (by
      rcases List.mem_append.1 hk with h3 | h3
      · exact List.mem_append.2 (.inl (q3.mem_iff.2 (by simp [h3])))
      · exact List.mem_append.2 (.inr h3))
    refine ⟨j, y, e, fun e2 => ?_, hb, hy⟩
    rw [e, e2] at hk
    exact (List.nodup_cons.1 hnd2).1 hk
  have hwx := hwf x (List.mem_of_getElem? hxi)
  have hmay : mayFrom 0 (setOf V x.c (x.k + 1)) = true := set_mayW h.may hwx
  have hn := fun d => set_next x.c (x.k + 1) d h.may
  have hnx : ∀ (j : Nat) (y : It), (bs.set i true)[j]? = some false → Xs[j]? = some y → nextOf (setOf V x.c (x.k + 1)) y.c ≤ y.k := fun j y hb hy => by
    have hne : j ≠ i := fun e => by
      rw [e, List.getElem?_set_self (by have := (List.getElem?_eq_some_iff.1 hbi).1; exact this)] at hb
      cases hb
    rw [List.getElem?_set_ne (Ne.symm hne)] at hb
    have h3 := h.nxt j y hb hy
    rw [hn]
    split
    · rename_i e
      rw [e, ← hxk] at h3
      rcases Int.lt_or_eq_of_le h3 with h4 | h4
      · omega
      · exact absurd (hap j i y x hy hxi (by unfold iid; rw [e, h4])) hne
    · exact h3
  have hw1 : WInv V Xs p h1 := ⟨h.w.keys, by rw [q1]; exact q2, fun k hk y hy => h.w.rdy k (q3.mem_iff.2 (by simp [hk])) y hy, h.w.wait⟩
  have hw2 := hw1.gone h.may hxk (fun k hk y hy => by
    obtain ⟨j, y', e, hji, _, hy'⟩ := hother k (by simp [hk])
    subst e
    rw [Int.toNat_natCast] at hy
    rw [hy'] at hy
    injection hy with hy
    subst hy
    exact fun e2 => hji (hap j i y' x hy' hxi e2))
  have hdp := dropP_perm (x.c, x.k) h.w.keys
  obtain ⟨hw3, hp3⟩ := WInv.all (lkP p (x.c, x.k)) (s := (dropP p (x.c, x.k), h1)) hw2 (fun k hk => by
    obtain ⟨j, y, e, hji, hb, hy⟩ := hother k (List.mem_append.2 (.inr (hdp.mem_iff.1 (List.mem_append.2 (.inl hk)))))
    subst e
    refine ⟨y, by rw [Int.toNat_natCast]; exact hy, next_nonneg _ hmay, hnx j y (by rw [List.getElem?_set_ne (Ne.symm hji)]; exact hb) hy, ?_⟩
    have := (hwf y (List.mem_of_getElem? hy)).2.2.2
    omega)
  refine ⟨i, x, rfl, hxi, hbi, fst_ncs hbi hxi hrd (fun j y hj hb hy => ?_), q1, ⟨hw3, by rw [List.length_set]; exact h.len, ?_, hnx, hmay⟩⟩
  · have hjm : ((j : Nat) : Int) ∈ hs ++ flaP p := h.perm.mem_iff.2 (nci_mem.2 ⟨j, by rw [Nat.zero_add], hb⟩)
    rcases List.mem_append.1 hjm with h3 | h3
    · have := q4 _ h3
      omega
    · obtain ⟨t, ht, hm'⟩ := flaP_mem.1 h3
      exact blk_rdy (h.w.wait t ht _ hm' y (by rw [Int.toNat_natCast]; exact hy))
  · refine hp3.trans ?_
    show (lkP p (x.c, x.k) ++ (h1 ++ flaP (dropP p (x.c, x.k)))).Perm _
    refine List.Perm.trans ?_ hperm1
    refine List.Perm.trans ?_ (hdp.append_left h1)
    rw [← List.append_assoc, ← List.append_assoc]
    exact (List.perm_append_comm).append_right _
theorem TInv.done {V : List (Int × Int)} {Xs : List It} {bs : List Bool} {p : List (I2 × List Int)} (h : TInv V Xs bs p []) : fstR V (ncs bs Xs) = none := by
  refine fst_none.2 fun x hx => ?_
  obtain ⟨i, hb, hxi⟩ := ncs_mem hx
  have h3 : ((i : Nat) : Int) ∈ flaP p := by
    have := h.perm.mem_iff.2 (nci_mem.2 ⟨i, by rw [Nat.zero_add], hb⟩)
    simpa using this
  obtain ⟨t, ht, hm'⟩ := flaP_mem.1 h3
  exact blk_rdy (h.w.wait t ht _ hm' x (by rw [Int.toNat_natCast]; exact hxi))

end Go.Proofs.Ytdpmhhfpjpdfiaa
