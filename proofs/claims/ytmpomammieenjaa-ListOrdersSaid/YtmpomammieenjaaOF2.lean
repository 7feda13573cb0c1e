/-
  Several texts of this seat in one file, each in the namespace again; no claim stands here.
-/
import Derived.Laws.Cover4
import Derived.Test.YtmpomammieenjaaOW
import Derived.Test.YtmpomammieenjaaOD2
import Derived.Test.YtmpomammieenjaaOE2
import Derived.Test.YtmpomammieenjaaOA2
import Derived.Test.YtmpomammieenjaaOT
import Derived.Test.YtmpomammieenjaaOS
namespace Go.Proofs.Ytmpomammieenjaa
open Go.ChangeShapes Go.WideShapes Go.ChangeAt Go.RowKit Go.Sort
set_option linter.unusedVariables false
set_option linter.unusedSimpArgs false

structure SoftAtV (Rel : World → World → Prop) (k0 j0 s0 : Nat) (Pre : World → Prop) (Post : Value → World → Prop) (tab : SoftTab) (a0 a : Act) (w W : World) (listed : Array Bool) : Prop where
  rel : Rel w W
  phase : (listed.getD k0 false = true → Post (a.tmps.getD s0 undef) W) ∧ (listed.getD k0 false = false → Pre W)
  defers : a.defers = a0.defers
  size : a.tmps.size = a0.tmps.size
  out : ∀ t, t ∉ tab.map (·.1) → a.tmps[t]? = a0.tmps[t]?
  told : ∀ (k d : Nat) (R : Told), tab[k]? = some (d, R) → listed.getD k false = true → (k ≠ j0 ∨ listed.getD k0 false = false) → R (a.tmps.getD d undef) W
def SoftMonoV (Rel : World → World → Prop) (j0 : Nat) (tab : SoftTab) : Prop :=
  (∀ (k d : Nat) (R : Told), tab[k]? = some (d, R) → ∀ (v : Value) (W W' : World), R v W → Ext W W' → R v W') ∧
  (∀ (k d : Nat) (R : Told), tab[k]? = some (d, R) → k ≠ j0 → ∀ (v : Value) (W W' : World), R v W → Rel W W' → R v W')
def SoftStepV (k0 j0 : Nat) (Pre : World → Prop) (Rel : World → World → Prop) (P : Program) (ops : Array Oper) (tab : SoftTab) (Q : Exit → Act → World → Prop) (a0 : Act) (w : World) (k : Nat) (o : Oper) : Prop :=
  ∀ a W, Rel w W → (depB ops k0 k = true → Pre W) → (∀ t, t ∉ tab.map (·.1) → a.tmps.getD t undef = a0.tmps.getD t undef) → (∀ e ∈ o.after.toList, Region.binds .any e = true → ∀ (d : Nat) (R : Told), tab[e.on]? = some (d, R) → (e.on ≠ j0 ∨ depB ops k0 k = true) → R (a.tmps.getD d undef) W ∧ d < a.tmps.size) →
    ∀ (d : Nat) (R : Told), tab[k]? = some (d, R) → wpOp P ops Q k (fun a' W' => ∃ v, a' = a.put (some d) v ∧ R v W' ∧ Ext W W') a W
def SoftStepD (s0 : Nat) (Rel : World → World → Prop) (Pre : World → Prop) (Post : Value → World → Prop) (P : Program) (ops : Array Oper) (tab : SoftTab) (Q : Exit → Act → World → Prop) (a0 : Act) (w : World) (k : Nat) (o : Oper) : Prop :=
  ∀ a W, Rel w W → Pre W → (∀ t, t ∉ tab.map (·.1) → a.tmps.getD t undef = a0.tmps.getD t undef) → (∀ e ∈ o.after.toList, Region.binds .any e = true → ∀ (d : Nat) (R : Told), tab[e.on]? = some (d, R) → R (a.tmps.getD d undef) W ∧ d < a.tmps.size) →
    ∀ (d : Nat) (R : Told), tab[k]? = some (d, R) → wpOp P ops Q k (fun a' W' => ∃ v, a' = a.put (some d) v ∧ R v W' ∧ Rel W W' ∧ Post (a.tmps.getD s0 undef) W') a W

theorem wpAny_softV {Rel : World → World → Prop} {k0 j0 s0 : Nat} {R0 : Told} {Pre : World → Prop} {Post : Value → World → Prop} {P : Program} {ops : Array Oper} {n : Nat} {tab : SoftTab} {Q : Exit → Act → World → Prop} {a0 : Act} {w : World} {rest : List Oper}
    (htrans : ∀ a b c, Rel a b → Rel b c → Rel a c)
    (hlen : tab.length = n) (hnd : (tab.map (·.1)).Nodup) (hsz : ∀ d ∈ tab.map (·.1), d < a0.tmps.size)
    (hn : n < ops.size) (hs : Region.sinkB .any ops n = true) (hc : Region.chainB .any ops n = true)
    (hback : ∀ (k : Nat) (o : Oper), k < n → ops[k]? = some o → ∀ e ∈ o.after.toList, Region.binds .any e = true → e.on < k)
    (hj : tab[j0]? = some (s0, R0)) (hjd : depB ops k0 j0 = true) (hmono : SoftMonoV Rel j0 tab)
    (hsub : ∀ a b, Ext a b → Rel a b) (hpre : ∀ a b, Ext a b → Pre a → Pre b) (hpost : ∀ v a b, Ext a b → Post v a → Post v b) (hk0 : k0 < n)
    (hstep : ∀ (k : Nat) (o : Oper), k < n → k ≠ k0 → ops[k]? = some o → SoftStepV k0 j0 Pre Rel P ops tab Q a0 w k o) (hcall : ∀ o, ops[k0]? = some o → SoftStepD s0 Rel Pre Post P ops tab Q a0 w k0 o)
    (hrest : ∀ j, rest[j]? = ops[n + j]?) (hrl : rest.length = ops.size - n) (hseq : Region.seqB .any ops rest.length n (doneTo n ops.size) = true)
    (hend : ∀ a W, SoftAtV Rel k0 j0 s0 Pre Post tab a0 a w W (doneTo n ops.size) → wpList P ops Q rest a W) :
    ∀ (f : Nat) (listed : Array Bool) (a : Act) (W : World), HeadInv .any ops n listed → (listed.toList.take n).count false = f → SoftAtV Rel k0 j0 s0 Pre Post tab a0 a w W listed → wpAny P .any ops Q (f + rest.length) listed a W := by
  intro f
  induction f with
  | zero =>
    intro listed a W inv hcnt hI
    have e : listed = doneTo n ops.size := by
      apply Array.ext
      · rw [inv.size]; simp [doneTo]; omega
      · intro i h1 h2
        rcases Nat.lt_or_ge i n with h | h
        · have hm : listed[i] ∈ listed.toList.take n := by
            rw [List.mem_take_iff_getElem]
            exact ⟨i, by simp; omega, by simp⟩
          have hne : listed[i] ≠ false := fun e => by
            rw [e] at hm
            have := List.count_pos_iff.2 hm
            omega
          have : listed[i] = true := by simpa using hne
          rw [this]
          simp [doneTo, h]
        · have := inv.tail i h (by rw [← inv.size]; exact h1)
          have h3 : listed[i] = false := by simpa [Array.getD, h1] using this
          rw [h3]
          simp [doneTo, List.getElem_append, Nat.not_lt.2 h]
    subst e
    rw [Nat.zero_add]
    exact wpAny_of_seq (md := .any) rest n _ a W hrest hseq (hend a W hI)
  | succ f ih =>
    intro listed a W inv hcnt hI
    have hex : ∃ i, i < n ∧ listed.getD i true = false := by
      have hm : false ∈ listed.toList.take n := List.count_pos_iff.1 (by omega)
      rw [List.mem_take_iff_getElem] at hm
      obtain ⟨i, h1, h2⟩ := hm
      have h1' : i < n ∧ i < listed.size := by simp at h1; omega
      refine ⟨i, h1'.1, ?_⟩
      simp [Array.getD, h1'.2]
      simpa using h2
    obtain ⟨i0, hi0, hun0⟩ := hex
    rw [show f + 1 + rest.length = (f + rest.length) + 1 by omega]
    refine ⟨fun hr => ?_, fun i hi => ?_⟩
    · exfalso
      have key : ∀ k, k < n → listed.getD k false = true := by
        intro k
        induction k using Nat.strongRecOn with
        | ind k ihk =>
          intro hk
          rcases hb : listed.getD k false with _ | _
          · exfalso
            have hk' : k < listed.size := by rw [inv.size]; omega
            have hk2 : k < ops.size := by omega
            have hm : k ∈ Region.ready .any ops listed := by
              rw [mem_ready]
              refine ⟨getD_in hk' hb, ops[k], by simp [hk2], fun e he hb' => ?_⟩
              have hlt := hback k ops[k] hk (by simp [hk2]) e (by simpa using he) hb'
              exact ihk e.on hlt (by omega)
            rw [hr] at hm
            cases hm
          · rfl
      have h9 := key i0 hi0
      rw [getD_both hun0] at h9
      cases h9
    · have hin : i < n := by
        rcases Nat.lt_or_ge i n with h | h
        · exact h
        · exact absurd hi (tail_waits hs hc hn inv _ i0 rfl hi0 hun0 i h)
      obtain ⟨h1, o, ho, hdep⟩ := mem_ready.1 hi
      obtain ⟨⟨d, R⟩, htab⟩ : ∃ p, tab[i]? = some p := ⟨tab[i], List.getElem?_eq_getElem (by omega)⟩
      have hdsz : d < a.tmps.size := by rw [hI.size]; exact hsz d (List.mem_map.2 ⟨(d, R), List.mem_of_getElem? htab, rfl⟩)
      have hk0of : depB ops k0 i = true → listed.getD k0 false = false := fun hd0 => by
        rcases hbk : listed.getD k0 false with _ | _
        · rfl
        · obtain ⟨o0, ho0, e0, he0, hb0, hon⟩ := depB_spec hd0
          have h7 := inv.closed k0 o0 ho0 hbk e0 (by simpa using he0) hb0
          rw [hon, getD_both h1] at h7
          cases h7
      have hj0l : listed.getD k0 false = true → listed.getD j0 false = true := fun hbk => by
        obtain ⟨o0, ho0, e0, he0, hb0, hon⟩ := depB_spec hjd
        have h7 := inv.closed k0 o0 ho0 hbk e0 (by simpa using he0) hb0
        rwa [hon] at h7
      have hjne : j0 ≠ k0 := fun e => by
        obtain ⟨o0, ho0, e0, he0, hb0, hon⟩ := depB_spec hjd
        have := hback k0 o0 hk0 ho0 e0 he0 hb0
        omega
      have hdeps : ∀ e ∈ o.after.toList, Region.binds .any e = true → ∀ (d' : Nat) (R' : Told), tab[e.on]? = some (d', R') → (e.on ≠ j0 ∨ listed.getD k0 false = false) → R' (a.tmps.getD d' undef) W ∧ d' < a.tmps.size := fun e he hb d' R' ht' hor =>
        ⟨hI.told e.on d' R' ht' (hdep e (by simpa using he) hb) hor, by rw [hI.size]; exact hsz d' (List.mem_map.2 ⟨(d', R'), List.mem_of_getElem? ht', rfl⟩)⟩
      have hst : wpOp P ops Q i (fun a' W' => ∃ v, a' = a.put (some d) v ∧ R v W' ∧ Rel W W' ∧ (i ≠ k0 → Ext W W') ∧ ((listed.setIfInBounds i true).getD k0 false = true → Post (a.tmps.getD s0 undef) W') ∧ ((listed.setIfInBounds i true).getD k0 false = false → Pre W')) a W := by
        by_cases hik : i = k0
        · subst hik
          have hf : listed.getD i false = false := getD_both h1
          refine wpOp_mono (fun a' W' hh => ?_) (hcall o ho a W hI.rel (hI.phase.2 hf) (fun t ht => by simp only [Array.getD_eq_getD_getElem?, hI.out t ht]) (fun e he hb d' R' ht' => hdeps e he hb d' R' ht' (.inr hf)) d R htab)
          obtain ⟨v, e1, e2, e3, e4⟩ := hh
          have hil' : i < listed.size := by rw [inv.size]; omega
          exact ⟨v, e1, e2, e3, fun hne => absurd rfl hne, fun _ => e4, fun hh => by simp [hil'] at hh⟩
        · refine wpOp_mono (fun a' W' hh => ?_) (hstep i o hin hik ho a W hI.rel (fun hd0 => hI.phase.2 (hk0of hd0)) (fun t ht => by simp only [Array.getD_eq_getD_getElem?, hI.out t ht]) (fun e he hb d' R' ht' hor => hdeps e he hb d' R' ht' (hor.imp id hk0of)) d R htab)
          obtain ⟨v, e1, e2, e3⟩ := hh
          refine ⟨v, e1, e2, hsub _ _ e3, fun _ => e3, fun hh => hpost _ _ _ e3 (hI.phase.1 ?_), fun hh => hpre _ _ e3 (hI.phase.2 ?_)⟩
          · rw [getD_set_ne false hik] at hh; exact hh
          · rw [getD_set_ne false hik] at hh; exact hh
      refine wpOp_mono (fun a' W' hh => ?_) hst
      obtain ⟨v, rfl, hR, hx, hxe, hph⟩ := hh
      have hil' : i < listed.size := by rw [inv.size]; omega
      refine ih _ _ _ (inv.set hi hin) ?_ ⟨htrans _ _ _ hI.rel hx, ⟨fun hh => ?_, hph.2⟩, hI.defers, by simp only [Act.put, Array.size_setIfInBounds]; exact hI.size, ?_, ?_⟩
      · have e : (listed.toList.take n)[i]? = some false := by
          have h3 : listed[i] = false := by simpa [Array.getD, hil'] using h1
          rw [List.getElem?_take, if_pos hin]
          simp [hil', h3]
        have := count_set (listed.toList.take n) i e
        rw [Array.toList_setIfInBounds, List.take_set]
        omega
      · have hdne : d ≠ s0 := by
          by_cases hik : i = k0
          · exact tab_ne hnd htab hj (fun e => hjne (e.symm.trans hik))
          · have hl0 : listed.getD k0 false = true := by rw [getD_set_ne false hik] at hh; exact hh
            have hjl := hj0l hl0
            exact tab_ne hnd htab hj (fun e => by rw [← e, getD_both h1] at hjl; cases hjl)
        have h9 := hph.1 hh
        simp only [Act.put, Array.getD_eq_getD_getElem?, Array.getElem?_setIfInBounds_ne hdne]
        simp only [Array.getD_eq_getD_getElem?] at h9
        exact h9
      · intro t ht
        have hne : d ≠ t := fun e => ht (e ▸ List.mem_map.2 ⟨(d, R), List.mem_of_getElem? htab, rfl⟩)
        simp only [Act.put]
        rw [Array.getElem?_setIfInBounds_ne hne]
        exact hI.out t ht
      · intro k d2 R2 ht2 hl2 hor
        simp only [Act.put]
        by_cases hki : k = i
        · subst hki
          obtain ⟨rfl, rfl⟩ : d = d2 ∧ R = R2 := by rw [htab] at ht2; injection ht2 with e; injection e with e1 e2; exact ⟨e1, e2⟩
          simp [hdsz]
          exact hR
        · have hne : d ≠ d2 := tab_ne hnd htab ht2 (fun e => hki e.symm)
          have h3 : listed.getD k false = true := by rw [getD_set_ne false (fun e => hki e.symm)] at hl2; exact hl2
          have : R2 (a.tmps.getD d2 undef) W' := by
            by_cases hik : i = k0
            · have hkj : k ≠ j0 := by
                rcases hor with h | h
                · exact h
                · exfalso
                  rw [hik] at h
                  have hil2 : k0 < listed.size := by rw [inv.size]; omega
                  simp [hil2] at h
              exact hmono.2 k d2 R2 ht2 hkj _ _ _ (hI.told k d2 R2 ht2 h3 (.inl hkj)) hx
            · refine hmono.1 k d2 R2 ht2 _ _ _ (hI.told k d2 R2 ht2 h3 (hor.imp id fun h => ?_)) (hxe hik)
              rwa [getD_set_ne false hik] at h
          simp only [Array.getD_eq_getD_getElem?, Array.getElem?_setIfInBounds_ne hne]
          simp only [Array.getD_eq_getD_getElem?] at this
          exact this

def SoftAllV (Rel : World → World → Prop) (k0 j0 s0 : Nat) (Pre : World → Prop) (Post : Value → World → Prop) (P : Program) (ops : Array Oper) (tab : SoftTab) (Q : Exit → Act → World → Prop) (a0 : Act) (w : World) : List Oper → Nat → Prop
  | [], _ => True
  | o :: r, k => (if k = k0 then SoftStepD s0 Rel Pre Post P ops tab Q a0 w k o else SoftStepV k0 j0 Pre Rel P ops tab Q a0 w k o) ∧ SoftAllV Rel k0 j0 s0 Pre Post P ops tab Q a0 w r (k + 1)
theorem softAllV_spec {Rel : World → World → Prop} {k0 j0 s0 : Nat} {Pre : World → Prop} {Post : Value → World → Prop} {P : Program} {ops : Array Oper} {tab : SoftTab} {Q : Exit → Act → World → Prop} {a0 : Act} {w : World} : ∀ (l : List Oper) (k : Nat), SoftAllV Rel k0 j0 s0 Pre Post P ops tab Q a0 w l k → ∀ (j : Nat) (o : Oper), l[j]? = some o →
    if k + j = k0 then SoftStepD s0 Rel Pre Post P ops tab Q a0 w (k + j) o else SoftStepV k0 j0 Pre Rel P ops tab Q a0 w (k + j) o
  | [], _, _, j, o, h => by simp at h
  | x :: l, k, h, 0, o, ho => by
    obtain rfl : x = o := by simpa using ho
    exact h.1
  | x :: l, k, h, j + 1, o, ho => by
    have := softAllV_spec l (k + 1) h.2 j o (by simpa using ho)
    rwa [Nat.add_assoc, Nat.add_comm 1 j] at this
theorem wp_soft_tailV (Rel : World → World → Prop) (k0 j0 s0 : Nat) (R0 : Told) (Pre : World → Prop) (Post : Value → World → Prop) {P : Program} {l : List Oper} (n : Nat) (tab : SoftTab) {Q : Exit → Act → World → Prop} {a : Act} {w : World} {id : Nat} (hm : P.follows .mixedOrders = true)
    (hform : softForm n l = true) (htrans : ∀ a b c, Rel a b → Rel b c → Rel a c) (hsub : ∀ a b, Ext a b → Rel a b) (hpre : ∀ a b, Ext a b → Pre a → Pre b) (hpost : ∀ v a b, Ext a b → Post v a → Post v b) (hk0 : k0 < n) (hw : Pre w)
    (hlen : tab.length = n) (hnd : (tab.map (·.1)).Nodup) (hsz : ∀ d ∈ tab.map (·.1), d < a.tmps.size) (hj : tab[j0]? = some (s0, R0)) (hjd : depB l.toArray k0 j0 = true) (hmono : SoftMonoV Rel j0 tab)
    (hend : ∀ a' W, SoftAtV Rel k0 j0 s0 Pre Post tab a a' w W (doneTo n l.length) → wpList P l.toArray Q (l.drop n) a' W)
    (hstep : SoftAllV Rel k0 j0 s0 Pre Post P l.toArray tab Q a w (l.take n) 0) : (Code.region id l.toArray true).wp P Q a w := by
  unfold softForm at hform
  simp only [Bool.and_eq_true, decide_eq_true_eq] at hform
  obtain ⟨⟨⟨⟨hn, hs⟩, hc⟩, hb⟩, hq⟩ := hform
  have hdl : (l.drop n).length = l.length - n := by simp
  have inv0 : HeadInv .any l.toArray n (Array.replicate l.toArray.size false) :=
    ⟨by simp, fun j oj _ hl => (by rw [getD_replicate_false] at hl; cases hl), fun t _ ht => getD_in (by simpa using ht) (getD_replicate_false _ _)⟩
  refine wp_region_any hm ?_
  have := wpAny_softV (Rel := Rel) (k0 := k0) (j0 := j0) (s0 := s0) (R0 := R0) (Pre := Pre) (Post := Post) (P := P) (ops := l.toArray) (n := n) (tab := tab) (Q := Q) (a0 := a) (w := w) (rest := l.drop n) htrans hlen hnd hsz (by simpa using hn) hs hc
    (fun k o hk ho => softBackN_spec hb k o hk (by simpa using ho)) hj hjd hmono
    hsub hpre hpost hk0
    (fun k o hk hne ho => by
      have := softAllV_spec (l.take n) 0 hstep k o (by rw [List.getElem?_take, if_pos hk]; simpa using ho)
      rw [Nat.zero_add, if_neg hne] at this
      exact this)
    (fun o ho => by
      have := softAllV_spec (l.take n) 0 hstep k0 o (by rw [List.getElem?_take, if_pos hk0]; simpa using ho)
      rw [Nat.zero_add, if_pos rfl] at this
      exact this)
    (fun j => by simp [List.getElem?_drop]) (by simp) (by rw [hdl]; simpa using hq) (fun a' W h => hend a' W (by simpa using h)) n (Array.replicate l.toArray.size false) a { w with drawn := w.drawn + 1 } inv0
    (by
      simp
      omega) ⟨hsub _ _ ((Ext.refl w).drew), ⟨fun hh => (by rw [getD_replicate_false] at hh; cases hh), fun _ => hpre _ _ ((Ext.refl w).drew) hw⟩, rfl, rfl, fun _ _ => rfl, fun k d R h1 h2 _ => by rw [getD_replicate_false] at h2; cases h2⟩
  rw [hdl] at this
  have e : n + (l.length - n) = l.toArray.size := by simp; omega
  rw [e] at this
  exact this

theorem softV_val {k0 j0 : Nat} {Pre : World → Prop} {Rel : World → World → Prop} {P : Program} {ops : Array Oper} {tab : SoftTab} {Q : Exit → Act → World → Prop} {a0 : Act} {w : World} {k : Nat} {o : Oper} (d : Nat) (R : Told) (hk : ops[k]? = some o) (hd : o.dst = some d) (htab : tab[k]? = some (d, R))
    (h : ∀ (a : Act) (W : World), Rel w W → (depB ops k0 k = true → Pre W) → (∀ t, t ∉ tab.map (·.1) → a.tmps.getD t undef = a0.tmps.getD t undef) → (∀ e ∈ o.after.toList, Region.binds .any e = true → ∀ (d : Nat) (R : Told), tab[e.on]? = some (d, R) → (e.on ≠ j0 ∨ depB ops k0 k = true) → R (a.tmps.getD d undef) W ∧ d < a.tmps.size) →
      Region.wanted o (yielded ops a.tmps) = true ∧ ∃ v W', (execOp a.eval o).run P W = .ok (.value v) W' ∧ R v W' ∧ Ext W W') : SoftStepV k0 j0 Pre Rel P ops tab Q a0 w k o := by
  intro a W hx hpre hout hdep d' R' ht
  rw [htab] at ht
  injection ht with ht
  injection ht with e1 e2
  subst e1
  subst e2
  obtain ⟨hw, v, W', hrun, hR, hE⟩ := h a W hx hpre hout hdep
  unfold wpOp
  simp only [hk]
  rw [if_pos hw]
  refine Or.inl ?_
  unfold Oper.wp
  rw [hrun, Oper.upon_value, hd]
  exact ⟨v, rfl, hR, hE⟩
theorem softV_call {k0 j0 : Nat} {Pre : World → Prop} {Rel : World → World → Prop} {P : Program} {ops : Array Oper} {tab : SoftTab} {Q : Exit → Act → World → Prop} {a0 : Act} {w : World} {k : Nat} {o : Oper} (d : Nat) (R : Told) (hk : ops[k]? = some o) (hd : o.dst = some d) (htab : tab[k]? = some (d, R))
    (h : ∀ (a : Act) (W : World), Rel w W → (depB ops k0 k = true → Pre W) → (∀ t, t ∉ tab.map (·.1) → a.tmps.getD t undef = a0.tmps.getD t undef) → (∀ e ∈ o.after.toList, Region.binds .any e = true → ∀ (d : Nat) (R : Told), tab[e.on]? = some (d, R) → (e.on ≠ j0 ∨ depB ops k0 k = true) → R (a.tmps.getD d undef) W ∧ d < a.tmps.size) →
      Region.wanted o (yielded ops a.tmps) = true ∧ ∃ f args, (execOp a.eval o).run P W = .ok (.enter f args) W ∧ Calls P f args W fun e W' => ∃ v, e = .returned v ∧ R v W' ∧ Ext W W') : SoftStepV k0 j0 Pre Rel P ops tab Q a0 w k o := by
  intro a W hx hpre hout hdep d' R' ht
  rw [htab] at ht
  injection ht with ht
  injection ht with e1 e2
  subst e1
  subst e2
  obtain ⟨hw, f, args, hrun, hc⟩ := h a W hx hpre hout hdep
  unfold wpOp
  simp only [hk]
  rw [if_pos hw]
  refine Or.inl ?_
  unfold Oper.wp
  rw [hrun, Oper.upon_enter]
  refine hc.mono ?_
  rintro e W' ⟨v, rfl, hR, hE⟩
  rw [hd]
  exact ⟨v, rfl, hR, hE⟩

theorem softD_none {Rel : World → World → Prop} {Pre : World → Prop} {Post : Value → World → Prop} {s0 : Nat} {P : Program} {ops : Array Oper} {tab : SoftTab} {Q : Exit → Act → World → Prop} {a0 : Act} {w : World} {k : Nat} {o : Oper} (d : Nat) (hk : ops[k]? = some o) (hd : o.dst = none) (htab : tab[k]? = some (d, fun _ _ => True))
    (h : ∀ (a : Act) (W : World), Rel w W → Pre W → (∀ t, t ∉ tab.map (·.1) → a.tmps.getD t undef = a0.tmps.getD t undef) → (∀ e ∈ o.after.toList, Region.binds .any e = true → ∀ (d : Nat) (R : Told), tab[e.on]? = some (d, R) → R (a.tmps.getD d undef) W ∧ d < a.tmps.size) →
      Region.wanted o (yielded ops a.tmps) = true ∧ ∃ W', (execOp a.eval o).run P W = .ok .skip W' ∧ Rel W W' ∧ Post (a.tmps.getD s0 undef) W') : SoftStepD s0 Rel Pre Post P ops tab Q a0 w k o := by
  intro a W hx hpre hout hdep d' R' ht
  rw [htab] at ht
  injection ht with ht
  injection ht with e1 e2
  subst e1
  subst e2
  obtain ⟨hw, W', hrun, hE, hP⟩ := h a W hx hpre hout hdep
  unfold wpOp
  simp only [hk]
  rw [if_pos hw]
  refine Or.inl ?_
  unfold Oper.wp
  rw [hrun]
  show ∃ v, a.put o.dst undef = a.put (some d) v ∧ _
  rw [hd]
  rcases Nat.lt_or_ge d a.tmps.size with hs | hs
  · exact ⟨_, (Act.put_self a d hs).symm, trivial, hE, hP⟩
  · refine ⟨undef, ?_, trivial, hE, hP⟩
    cases a with
    | mk t df => simp only [Act.put]; congr 1; exact (Array.setIfInBounds_eq_of_size_le hs).symm

theorem wp_soft_frameV (Rel : World → World → Prop) (k0 j0 s0 : Nat) (R0 : Told) (Pre : World → Prop) (Post : Value → World → Prop) {P : Program} {l : List Oper} (n : Nat) (tab : SoftTab) {Q : Exit → Act → World → Prop} {a : Act} {w : World} {id : Nat} (hm : P.follows .mixedOrders = true)
    (hform : softForm n l = true) (htrans : ∀ a b c, Rel a b → Rel b c → Rel a c) (hsub : ∀ a b, Ext a b → Rel a b) (hpre : ∀ a b, Ext a b → Pre a → Pre b) (hpost : ∀ v a b, Ext a b → Post v a → Post v b) (hk0 : k0 < n) (hw : Pre w)
    (hlen : tab.length = n) (hnd : (tab.map (·.1)).Nodup) (hsz : ∀ d ∈ tab.map (·.1), d < a.tmps.size) (hj : tab[j0]? = some (s0, R0)) (hjd : depB l.toArray k0 j0 = true) (hmono : SoftMonoV Rel j0 tab)
    (hend : ∀ (W : World) (f : Nat → Value), (∀ (k d : Nat) (R : Told), tab[k]? = some (d, R) → k ≠ j0 → R (f d) W) → Rel w W → Post (f s0) W → wpList P l.toArray Q (l.drop n) ⟨putAll a.tmps ((tab.map (·.1)).map fun d => (d, f d)), a.defers⟩ W)
    (hstep : SoftAllV Rel k0 j0 s0 Pre Post P l.toArray tab Q a w (l.take n) 0) : (Code.region id l.toArray true).wp P Q a w := by
  refine wp_soft_tailV Rel k0 j0 s0 R0 Pre Post n tab hm hform htrans hsub hpre hpost hk0 hw hlen hnd hsz hj hjd hmono (fun a' W hS => ?_) hstep
  have h1 := hend W (fun d => a'.tmps.getD d undef) (fun k d R hk hne => hS.told k d R hk (by
    have hk' : k < n := by have := (List.getElem?_eq_some_iff.1 hk).1; omega
    simp [doneTo, hk', List.getElem?_append]) (.inl hne)) hS.rel (hS.phase.1 (by simp [doneTo, hk0, List.getElem?_append]))
  rw [← putAll_of a'.tmps _ a.tmps hS.size hS.out, ← hS.defers] at h1
  exact h1

end Go.Proofs.Ytmpomammieenjaa

namespace Go.Proofs.Ytmpomammieenjaa
open Go.ChangeShapes Go.WideShapes Go.ChangeAt Go.RowKit Go.Sort
set_option linter.unusedVariables false
set_option linter.unusedSimpArgs false
set_option linter.unusedSimpArgs false
attribute [local go_sem] World.cell?_alloc_some

def IxN (F : Nat → Prop) (s : Nat) (W : World) (xv : Xv) (l : List En) : Prop := ∃ F', Ix F' W (ixv xv) l ∧ ∀ b, F' b → F b ∨ s ≤ b
theorem IxN.ext {F : Nat → Prop} {s : Nat} {W W' : World} {xv : Xv} {l : List En} (h : IxN F s W xv l) (hx : Ext W W') : IxN F s W' xv l := by
  obtain ⟨F', h1, h2⟩ := h
  exact ⟨F', h1.ext hx, h2⟩
def ZIx (W : World) (q : Nat) : Prop := W.heap[q]? = some (.cells #[.slice none 0 0, .pointer none, .pointer none, Vi 0, Vi 0, Vi 0, Vq 0, Vq 0] 30 (0, 0))
theorem ZIx.ext {W W' : World} {q : Nat} (h : ZIx W q) (hx : Ext W W') : ZIx W' q := (RowKit.Below.block hx q (Array.getElem?_eq_some_iff.1 h).1).trans h

def had7Tab (G : Nat → Prop) (ad2 : I2 → Nat) (t2 : HT) (y : Lv) (xv : Xv) (pb qi nq : Nat) : SoftTab := [(67, fun z9 W => z9 = ixv xv),
  (68, fun z9 W => z9 = .pointer (some ⟨pb, 8, none⟩)),
  (69, fun z9 W => z9 = .pointer y.p),
  (70, fun z9 W => z9 = Vp nq),
  (71, fun z9 W => ∃ v : Value, z9 = v ∧ HV G W ad2 t2 v),
  (72, fun z9 W => ∃ p2 : Option Addr, z9 = lsv (lvx xv p2) ∧ HV G W ad2 t2 (.pointer p2))]
theorem had7Tab_mono (G : Nat → Prop) (ad2 : I2 → Nat) (t2 : HT) (y : Lv) (xv : Xv) (pb qi nq : Nat) (Rel : World → World → Prop) (hR : ∀ W W', Rel W W' → Ext W W') : SoftMonoR Rel (had7Tab G ad2 t2 y xv pb qi nq) := by
  intro p hp v W W' h hx
  simp only [had7Tab, List.mem_cons, List.not_mem_nil, or_false] at hp
  rcases hp with rfl | rfl | rfl | rfl | rfl | rfl
  all_goals first
    | exact h
    | exact (by obtain ⟨q, h1, h2⟩ := h; exact ⟨q, h1, h2.ext (hR _ _ hx)⟩)

def had4Tab (F : Nat → Prop) (s : Nat) (y : Lv) (L : List It) (l1 : List En) (x : It) (gone : Bool) (pb pi nq : Nat) : SoftTab := [(49, fun z9 W => z9 = .pointer (some ⟨pb, 0, none⟩)),
  (50, fun z9 W => z9 = ixv (xl y)),
  (51, fun z9 W => z9 = lsv y),
  (52, fun z9 W => z9 = Vp nq),
  (53, fun z9 W => ∃ p : Nat, z9 = Vi (p : Int) ∧ PlcOk L x p),
  (54, fun z9 W => z9 = .pointer (some ⟨pi, 0, none⟩)),
  (55, fun z9 W => z9 = idv x.c x.k),
  (56, fun z9 W => z9 = .pointer (some ⟨pi, 6, none⟩)),
  (57, fun z9 W => z9 = .int .i32 x.ch),
  (58, fun z9 W => z9 = .bool gone),
  (59, fun z9 W => z9 = env ⟨x.c, x.k, x.ch, gone⟩),
  (60, fun z9 W => ∃ xv : Xv, z9 = .tuple #[ixv xv, .nilIface] ∧ IxN F s W xv l1),
  (48, fun z9 W => ∃ xv : Xv, z9 = .tuple #[ixv xv, .nilIface] ∧ IxN F s W xv l1),
  (61, fun z9 W => ∃ xv : Xv, z9 = ixv xv ∧ IxN F s W xv l1),
  (62, fun z9 W => z9 = .nilIface),
  (9, fun z9 W => ∃ q, z9 = Vp q ∧ (s ≤ q ∧ ZIx W q)),
  (10, fun z9 W => True)]
theorem had4Tab_mono (F : Nat → Prop) (s : Nat) (y : Lv) (L : List It) (l1 : List En) (x : It) (gone : Bool) (pb pi nq : Nat) (wq : World) : SoftMonoV (KR wq) 15 (had4Tab F s y L l1 x gone pb pi nq) := by
  constructor
  · intro k d R hk v' W W' h hx
    have hp := List.mem_of_getElem? hk
    simp only [had4Tab, List.mem_cons, Prod.mk.injEq, List.not_mem_nil, or_false] at hp
    rcases hp with ⟨_, rfl⟩ | ⟨_, rfl⟩ | ⟨_, rfl⟩ | ⟨_, rfl⟩ | ⟨_, rfl⟩ | ⟨_, rfl⟩ | ⟨_, rfl⟩ | ⟨_, rfl⟩ | ⟨_, rfl⟩ | ⟨_, rfl⟩ | ⟨_, rfl⟩ | ⟨_, rfl⟩ | ⟨_, rfl⟩ | ⟨_, rfl⟩ | ⟨_, rfl⟩ | ⟨_, rfl⟩ | ⟨_, rfl⟩
    all_goals first
      | exact h
      | (obtain ⟨yv, h1, h2⟩ := h
         exact ⟨yv, h1, h2.ext hx⟩)
      | (obtain ⟨q, h1, h2, h3⟩ := h
         exact ⟨q, h1, h2, h3.ext hx⟩)
  · intro k d R hk hne v' W W' h hx
    have hkn : k < 17 := (List.getElem?_eq_some_iff.1 hk).1
    have h9 : k = 0 ∨ k = 1 ∨ k = 2 ∨ k = 3 ∨ k = 4 ∨ k = 5 ∨ k = 6 ∨ k = 7 ∨ k = 8 ∨ k = 9 ∨ k = 10 ∨ k = 11 ∨ k = 12 ∨ k = 13 ∨ k = 14 ∨ k = 16 := by omega
    rcases h9 with rfl | rfl | rfl | rfl | rfl | rfl | rfl | rfl | rfl | rfl | rfl | rfl | rfl | rfl | rfl | rfl
    all_goals
      simp only [had4Tab, List.getElem?_cons_succ, List.getElem?_cons_zero, Option.some.injEq, Prod.mk.injEq] at hk
      obtain ⟨_, rfl⟩ := hk
      first
        | exact h
        | (obtain ⟨yv, h1, F2, h2, h3⟩ := h
           obtain ⟨F3, h4, h5⟩ := hx.2 F2 _ _ h2
           exact ⟨yv, h1, F3, h5, fun b hb => h3 b (h4 b hb)⟩)

def AddP (F : Nat → Prop) (Wo : World) (L : List It) (G1 : List I2) (e : Ending) (w' : World) : Prop := ∃ (F' : Nat → Prop) (z : Lv) (t2 : HT) (ad2 : I2 → Nat), e = .returned (.tuple #[lsv z, .nilIface]) ∧ LC F' w' z L G1 t2 ad2 ∧ (∀ b, F' b → F b ∨ Wo.heap.size ≤ b) ∧ Ext Wo w'
set_option maxRecDepth 100000 in
set_option maxHeartbeats 32000000 in
theorem LC.addIs {F : Nat → Prop} {Wo : World} {y : Lv} {L : List It} {G0 : List I2} {t : HT} {ad : I2 → Nat} (h : LC F Wo y L G0 t ad) (hl : L.length ≤ 800) (x : It) (gone : Bool) (hwf : wfI x) (hcan : canI L x = true) :
    Calls Try.prog 11 #[lsv y, itv x, .bool gone] Wo (AddP F Wo (L ++ [x]) (if gone then G0 ++ [(x.c, x.k)] else G0)) := by
  obtain ⟨G1, hG1⟩ : ∃ G1, (if gone then G0 ++ [(x.c, x.k)] else G0) = G1 := ⟨_, rfl⟩
  rw [hG1]
  replace hG1 := Lib.hid hG1
  have hx : knownX L x = true := by rw [canI_is, Bool.and_eq_true] at hcan; exact hcan.1
  unfold canI at hcan
  simp only [Bool.and_eq_true, Bool.not_eq_true', Bool.or_eq_false_iff] at hcan
  obtain ⟨⟨⟨⟨e0, e1⟩, e2⟩, e3⟩, e4⟩ := hcan
  have x0 : Ext Wo (((Wo.alloc (lbox y)).alloc (icells x)).alloc (lbox zLv)) := (((Ext.refl Wo).alloc _).alloc _).alloc _
  have bl := ((BxL.new Wo y).ext ((Ext.refl _).alloc (icells x))).ext ((Ext.refl _).alloc (lbox zLv))
  have bi := (BoxI.newL (Wo.alloc (lbox y)) x).ext ((Ext.refl _).alloc (lbox zLv))
  have bz := BxL.new ((Wo.alloc (lbox y)).alloc (icells x)) zLv
  rw [show (Wo.alloc (lbox y)).heap.size = Wo.heap.size + 1 by simp] at bi
  rw [show ((Wo.alloc (lbox y)).alloc (icells x)).heap.size = Wo.heap.size + 1 + 1 by simp] at bz
  have hpl : Wo.heap.size ≤ Wo.heap.size + 1 + 1 := by omega
  have q0 := Lib.hid (fun (w : World) => none_lit (k := x.k) e0 w)
  have q1 := Lib.hid (fun w (hw : Ext Wo w) => (h.ext hw).findNo (c := x.c) (k := x.k) e1)
  have q2 := Lib.hid (fun w (hw : Ext Wo w) => (h.ext hw).noneOrHas x.lc x.lk (B := true) (by simpa using e2))
  have q3 := Lib.hid (fun w (hw : Ext Wo w) => (h.ext hw).noneOrHas x.rc x.rk (B := true) (by simpa using e3))
  have q4 := Lib.hid (fun (w : World) => valid_any x.ch e4 w)
  have q5 := Lib.hid (fun w (hw : Ext Wo w) => (h.ext hw).newNode (by omega) x hx)
  have hk2 : knownI (L ++ [x]) = true := by rw [known_snoc, h.nd.kn, hx]; rfl
  have hput0 := Lib.hid (fun w (hw : Ext Wo w) (p : Nat) (hp : PlcOk L x p) => by
    have := put_ix w (ixv (xl y)) (entL L G0) p ⟨x.c, x.k, x.ch, gone⟩ (h.ext hw).ix (by rw [h.len]; omega) (by rw [h.len]; have := hp.1; rw [ord_len' h.nd.kn] at this; exact this) (by rw [ent_has h.nd.kn]; exact e1)
    rw [ent_put hk2 hp h.gin gone, hG1.out] at this
    exact this)
  have hplc := Lib.hid (fun w (hw : Ext Wo w) nn d vf hc => (h.ext hw).placeOf (by omega) x hx nn d vf hc)
  clear e0 e1 e2 e3 e4
  obtain ⟨pz, hpz⟩ : ∃ pz, Wo.heap.size + 1 + 1 = pz := ⟨_, rfl⟩
  obtain ⟨pi, hpi⟩ : ∃ pi, Wo.heap.size + 1 = pi := ⟨_, rfl⟩
  rw [hpz] at bz hpl
  rw [hpi] at bi
  obtain ⟨b0, b1, b2, b3, b4, b5, b6, b7, b8⟩ := bl.cells
  obtain ⟨i0, i1, i2, i3, i4, i5, i6⟩ := bi.cells
  simp only [Nat.zero_add] at i0 i1 i2 i3 i4 i5 i6
  go_enter Try.func11, Try.ntmps11
  rw [← hpi] at i0 i1 i2 i3 i4 i5 i6
  replace bz := Lib.hid bz
  replace x0 := Lib.hid x0
  replace hpz := Lib.hid hpz
  replace hpi := Lib.hid hpi
  replace h := Lib.hid h
  replace hx := Lib.hid hx
  replace hk2 := Lib.hid hk2
  clear bl bi
  go_wp2_with fail
  rw [hpz.out, hpi.out]
  rw [hpi.out] at i0 i1 i2 i3 i4 i5 i6
  refine (q0.out _).mono ?_
  rintro e w0 ⟨rfl, x1⟩
  replace b0 := x1.keep b0
  replace b1 := x1.keep b1
  replace b2 := x1.keep b2
  replace b3 := x1.keep b3
  replace b4 := x1.keep b4
  replace b5 := x1.keep b5
  replace b6 := x1.keep b6
  replace b7 := x1.keep b7
  replace b8 := x1.keep b8
  replace i0 := x1.keep i0
  replace i1 := x1.keep i1
  replace i2 := x1.keep i2
  replace i3 := x1.keep i3
  replace i4 := x1.keep i4
  replace i5 := x1.keep i5
  replace i6 := x1.keep i6
  replace bz := Lib.hid (bz.out.ext x1)
  replace x0 := Lib.hid (x0.out.trans x1)
  clear x1 q0
  go_wp2_with fail
  refine (q1.out _ x0.out).mono ?_
  rintro e w1 ⟨rfl, x1⟩
  replace b0 := x1.keep b0
  replace b1 := x1.keep b1
  replace b2 := x1.keep b2
  replace b3 := x1.keep b3
  replace b4 := x1.keep b4
  replace b5 := x1.keep b5
  replace b6 := x1.keep b6
  replace b7 := x1.keep b7
  replace b8 := x1.keep b8
  replace i0 := x1.keep i0
  replace i1 := x1.keep i1
  replace i2 := x1.keep i2
  replace i3 := x1.keep i3
  replace i4 := x1.keep i4
  replace i5 := x1.keep i5
  replace i6 := x1.keep i6
  replace bz := Lib.hid (bz.out.ext x1)
  replace x0 := Lib.hid (x0.out.trans x1)
  clear x1 q1
  go_wp2_with fail
  refine (q2.out _ x0.out).mono ?_
  rintro e w2 ⟨rfl, x1⟩
  replace b0 := x1.keep b0
  replace b1 := x1.keep b1
  replace b2 := x1.keep b2
  replace b3 := x1.keep b3
  replace b4 := x1.keep b4
  replace b5 := x1.keep b5
  replace b6 := x1.keep b6
  replace b7 := x1.keep b7
  replace b8 := x1.keep b8
  replace i0 := x1.keep i0
  replace i1 := x1.keep i1
  replace i2 := x1.keep i2
  replace i3 := x1.keep i3
  replace i4 := x1.keep i4
  replace i5 := x1.keep i5
  replace i6 := x1.keep i6
  replace bz := Lib.hid (bz.out.ext x1)
  replace x0 := Lib.hid (x0.out.trans x1)
  clear x1 q2
  go_wp2_with fail
  refine (q3.out _ x0.out).mono ?_
  rintro e w3 ⟨rfl, x1⟩
  replace b0 := x1.keep b0
  replace b1 := x1.keep b1
  replace b2 := x1.keep b2
  replace b3 := x1.keep b3
  replace b4 := x1.keep b4
  replace b5 := x1.keep b5
  replace b6 := x1.keep b6
  replace b7 := x1.keep b7
  replace b8 := x1.keep b8
  replace i0 := x1.keep i0
  replace i1 := x1.keep i1
  replace i2 := x1.keep i2
  replace i3 := x1.keep i3
  replace i4 := x1.keep i4
  replace i5 := x1.keep i5
  replace i6 := x1.keep i6
  replace bz := Lib.hid (bz.out.ext x1)
  replace x0 := Lib.hid (x0.out.trans x1)
  clear x1 q3
  go_wp2_with fail
  refine (q4.out _).mono ?_
  rintro e w4 ⟨rfl, x1⟩
  replace b0 := x1.keep b0
  replace b1 := x1.keep b1
  replace b2 := x1.keep b2
  replace b3 := x1.keep b3
  replace b4 := x1.keep b4
  replace b5 := x1.keep b5
  replace b6 := x1.keep b6
  replace b7 := x1.keep b7
  replace b8 := x1.keep b8
  replace i0 := x1.keep i0
  replace i1 := x1.keep i1
  replace i2 := x1.keep i2
  replace i3 := x1.keep i3
  replace i4 := x1.keep i4
  replace i5 := x1.keep i5
  replace i6 := x1.keep i6
  replace bz := Lib.hid (bz.out.ext x1)
  replace x0 := Lib.hid (x0.out.trans x1)
  clear x1 q4
  have hpzl := bz.out.lt
  go_wp2_with fail
  refine (q5.out _ x0.out).mono ?_
  rintro e w5 ⟨nq, far, rfl, hnq, hnc, hfar, x1⟩
  replace b0 := x1.keep b0
  replace b1 := x1.keep b1
  replace b2 := x1.keep b2
  replace b3 := x1.keep b3
  replace b4 := x1.keep b4
  replace b5 := x1.keep b5
  replace b6 := x1.keep b6
  replace b7 := x1.keep b7
  replace b8 := x1.keep b8
  replace i0 := x1.keep i0
  replace i1 := x1.keep i1
  replace i2 := x1.keep i2
  replace i3 := x1.keep i3
  replace i4 := x1.keep i4
  replace i5 := x1.keep i5
  replace i6 := x1.keep i6
  replace bz := Lib.hid (bz.out.ext x1)
  have hsz4 := x1.size
  replace x0 := Lib.hid (x0.out.trans x1)
  clear x1 q5
  obtain ⟨pb, hpb⟩ : ∃ pb, Wo.heap.size = pb := ⟨_, rfl⟩
  rw [hpb] at b0 b1 b2 b3 b4 b5 b6 b7 b8 ⊢
  replace hpb := Lib.hid hpb
  obtain ⟨l1, hl1⟩ : ∃ l1, entL (L ++ [x]) G1 = l1 := ⟨_, rfl⟩
  obtain ⟨s, hs⟩ : ∃ s, w5.heap.size = s := ⟨_, rfl⟩
  have hsz := Lib.hid (show s ≤ w5.heap.size by omega)
  have hpo := Lib.hid (fun w (hw : Ext w5 w) => hplc.out w (x0.out.trans hw) nq _ _ (hnc.ext hw))
  have hput := Lib.hid (fun w (hw : Ext w5 w) (p : Nat) (hp : PlcOk L x p) => (hput0.out w (x0.out.trans hw) p hp).mono (R' := fun e w2 => ∃ v : Value, e = .returned v ∧ (∃ xv : Xv, v = .tuple #[ixv xv, .nilIface] ∧ IxN F s w2 xv l1) ∧ Ext w w2) (by
    rintro e w2 ⟨F', v', rfl, hI, hF, hE⟩
    obtain ⟨xv, rfl⟩ := hI.shape
    rw [hl1] at hI
    exact ⟨_, rfl, ⟨xv, rfl, F', hI, fun b hb => (hF b hb).imp id (fun hb => Nat.le_trans (Nat.le_trans hsz.out hw.size) hb)⟩, hE⟩))
  replace hl1 := Lib.hid hl1
  replace hs := Lib.hid hs
  clear hplc hput0
  go_wp2_with fail
  refine wp_soft_frameV (KR w5) 16 15 9 _ (fun _ => True) (fun v W => ∃ q yv, v = Vp q ∧ s ≤ q ∧ W.heap[q]? = some (.cells #[.slice yv.A yv.n yv.c, .pointer yv.l, .pointer yv.r, Vi yv.h, Vi yv.m, Vi yv.s, Vq yv.lo, Vq yv.hi] 30 (0, 0)) ∧ IxN F s W yv l1) 17 (had4Tab F s y L l1 x gone pb pi nq) (by kernel_rfl) (by kernel_rfl) (fun _ _ _ => KR.trans) (fun _ _ => KR.ext) (fun _ _ _ h => h) ?_ (by omega) trivial rfl (by show List.Nodup [49, 50, 51, 52, 53, 54, 55, 56, 57, 58, 59, 60, 48, 61, 62, 9, 10]; decide) (by show ∀ d ∈ [49, 50, 51, 52, 53, 54, 55, 56, 57, 58, 59, 60, 48, 61, 62, 9, 10], d < 73; decide) rfl (by kernel_rfl) (had4Tab_mono F s y L l1 x gone pb pi nq w5) ?_ ⟨?_, ?_, ?_, ?_, ?_, ?_, ?_, ?_, ?_, ?_, ?_, ?_, ?_, ?_, ?_, ?_, ?_, trivial⟩
  · rintro v a b hab ⟨q, yv, h1, h2, h3, h4⟩
    exact ⟨q, yv, h1, h2, by rw [RowKit.Below.block hab q (Array.getElem?_eq_some_iff.1 h3).1]; exact h3, h4.ext hab⟩
  · intro W f hT hR hPost
    have t0 := hT 0 49 _ rfl (by decide)
    have t1 := hT 1 50 _ rfl (by decide)
    have t2 := hT 2 51 _ rfl (by decide)
    have t3 := hT 3 52 _ rfl (by decide)
    have t4 := hT 4 53 _ rfl (by decide)
    have t5 := hT 5 54 _ rfl (by decide)
    have t6 := hT 6 55 _ rfl (by decide)
    have t7 := hT 7 56 _ rfl (by decide)
    have t8 := hT 8 57 _ rfl (by decide)
    have t9 := hT 9 58 _ rfl (by decide)
    have t10 := hT 10 59 _ rfl (by decide)
    have t11 := hT 11 60 _ rfl (by decide)
    have t12 := hT 12 48 _ rfl (by decide)
    have t13 := hT 13 61 _ rfl (by decide)
    have t14 := hT 14 62 _ rfl (by decide)
    simp only [had4Tab, List.map_cons, List.map_nil, putAll, List.setIfInBounds_toArray, List.set_cons_zero, List.set_cons_succ, List.drop_succ_cons, List.drop_zero]
    try simp only at t0 t1 t2 t3 t5 t6 t7 t8 t9 t10 t14
    obtain ⟨y4, t4, _⟩ := t4
    obtain ⟨y11, t11, _⟩ := t11
    obtain ⟨y12, t12, _⟩ := t12
    obtain ⟨y13, t13, _⟩ := t13
    obtain ⟨qi, xv, eq, hqi, hrow, hIN⟩ := hPost
    rw [t0, t1, t2, t3, t5, t6, t7, t8, t9, t10, t14, t4, t11, t12, t13, eq]
    clear t0 t1 t2 t3 t5 t6 t7 t8 t9 t10 t14 t4 t11 t12 t13 eq hT
    generalize W = W6 at *
    obtain ⟨F1, hI1, hF1⟩ := hIN
    have hR := hR.1 (Ext.refl _)
    replace hF1 := Lib.hid hF1
    replace hI1 := Lib.hid hI1
    replace hrow := Lib.hid hrow
    have hE2 := Lib.hid hR
    clear hpo hput b0 b1 b2 b3 b4 b5 b6 b7 i0 i1 i2 i3 i4 i5 i6 hR
    replace b8 := Lib.hid b8
    go_wp2_with fail
    obtain ⟨j0, j1, j2, j3, j4, j5, j6, j7⟩ := Bx.row hrow.out
    replace b8 := hE2.out.keep b8.out
    have hL2 := Lib.hid (h.out.ext (x0.out.trans hE2.out))
    obtain ⟨G, hG⟩ : ∃ G : Nat → Prop, G = (fun b => F b ∨ F1 b ∨ b = nq ∨ W6.heap.size ≤ b) := ⟨_, rfl⟩
    obtain ⟨ad2, had2⟩ : ∃ ad2, updA ad (iid x) nq = ad2 := ⟨_, rfl⟩
    obtain ⟨t2, ht2⟩ : ∃ t2, insH t (iid x) = t2 := ⟨_, rfl⟩
    have hnot : iid x ∉ hin t := fun e => by have := (hL2.out.mem _).1 e; rw [(knownX_spec hx.out).2.1] at this; cases this
    have hsame : ∀ a ∈ hin t, ad2 a = ad a := fun a ha => by rw [← had2]; exact updA_other (fun e => hnot (e ▸ ha))
    have hnq2 : ad2 (iid x) = nq := by rw [← had2]; exact updA_same _ _ _
    have hnc2 := Lib.hid (hnc.ext hE2.out)
    have hwi := Lib.hid (fun w (hw : Ext W6 w) => by
      have hnn := (hnc2.out.ext hw).cells
      have := with_any (G := G) (ad := ad2) (iid x) t (.pointer y.p) w ((((hL2.out.hv.ext hw)).same hsame).mono (fun b hb => by rw [hG]; exact .inl hb)) (fun a ha => by rw [hsame a ha]; exact (hL2.out.ext hw).nd.ids (fun a ha => (hL2.out.mem a).1 ha) a ha) (fun a ha => by rw [List.mem_singleton.1 ha, hnq2]; exact ⟨hnn.c0, hnn.c1⟩) hnot (fun b hb => by rw [hG]; exact .inr (.inr (.inr (Nat.le_trans hw.size hb)))) (by rw [hL2.out.tl]; omega)
      rw [hnq2, ht2] at this
      exact this)
    replace hG := Lib.hid hG
    replace had2 := Lib.hid had2
    replace ht2 := Lib.hid ht2
    replace hnot := Lib.hid hnot
    clear hsame hnc
    refine wp_soft_frame Ext 6 (had7Tab G ad2 t2 y xv pb qi nq) (by kernel_rfl) (by kernel_rfl) (fun _ _ _ => Ext.trans) ((Ext.refl _).drew) rfl (by show List.Nodup [67, 68, 69, 70, 71, 72]; decide) (by show ∀ d ∈ [67, 68, 69, 70, 71, 72], d < 73; decide) (had7Tab_mono G ad2 t2 y xv pb qi nq Ext (fun _ _ h => h)) ?_ ⟨?_, ?_, ?_, ?_, ?_, ?_, trivial⟩
    · intro W vs hT hR
      match vs, hT with
      | [v0, v1, v2, v3, v4, v5], ⟨e0, e1, e2, e3, e4, e5, _⟩ =>
        simp only [had7Tab, List.map_cons, List.map_nil, List.zip_cons_cons, List.zip_nil_left, putAll, List.setIfInBounds_toArray, List.set_cons_zero, List.set_cons_succ, List.drop_succ_cons, List.drop_zero]
        simp only at e0 e1 e2 e3
        obtain ⟨q4, e4, h4⟩ := e4
        obtain ⟨q5, e5, h5⟩ := e5
        rw [e0, e1, e2, e3, e4, e5]
        clear e0 e1 e2 e3 e4 e5 v0 v1 v2 v3 v4 v5
        have hE7 := x0.out.trans (hE2.out.trans hR)
        have hbz := (bz.out.ext hE2.out).ext hR
        have hz1 := hE2.out.size
        have hz2 := hR.size
        have hlF := h.out.lt
        have hGz : ∀ b, G b → b ≠ pz := by
          intro b hb e
          rw [hG.out] at hb
          have := hs.out
          rcases hb with hb | hb | hb | hb
          · have := hlF b hb; omega
          · rcases hF1.out b hb with hb | hb
            · have := hlF b hb; omega
            · omega
          · omega
          · omega
        have hlo : ∀ b, G b → F b ∨ Wo.heap.size ≤ b := by
          intro b hb
          rw [hG.out] at hb
          have := hs.out
          rcases hb with hb | hb | hb | hb
          · exact .inl hb
          · rcases hF1.out b hb with hb | hb
            · exact .inl hb
            · exact .inr (by omega)
          · exact .inr (by omega)
          · exact .inr (by omega)
        have hnF : ¬ F nq := fun e => by have := hlF nq e; omega
        have hL7 := h.out.ext hE7
        have hend := Lib.hid (show LC (fun b => G b ∧ b < W.heap.size) (putL W pz (lvx xv q5)) (lvx xv q5) (L ++ [x]) G1 t2 ad2 ∧ (∀ b, (fun b => G b ∧ b < W.heap.size) b → F b ∨ Wo.heap.size ≤ b) ∧ Ext Wo (putL W pz (lvx xv q5)) from by
          refine ⟨LC.frame (W := W) ?_ ?_, ?_, ?_⟩
          · refine ⟨?_, h5.lt, ?_, ?_, ?_, ?_, ?_, fun b hb => hb.2, ?_⟩
            · rw [hl1.out]
              exact (hI1.out.ext hR).mono (fun b hb => ⟨by rw [hG.out]; exact .inr (.inl hb), (hI1.out.ext hR).below b hb⟩) (fun b hb => hb.2)
            · have := hL7.nd.snoc hx.out (q := nq) (G := G) hnF (fun b hb => by rw [hG.out]; exact .inl hb) (by rw [hG.out]; exact .inr (.inr (.inl rfl))) (hnc2.out.ext hR) hfar
              rw [had2.out] at this
              exact this.lt
            · rw [← ht2.out]
              exact insH_srt t _ h.out.srt hnot.out
            · intro a
              rw [← ht2.out, insH_mem, has_snoc, Bool.or_eq_true, decide_eq_true_iff, h.out.mem a]
              constructor
              · rintro (e | e)
                · exact .inr e.symm
                · exact .inl e
              · rintro (e | e)
                · exact .inr e
                · exact .inl e.symm
            · intro g hg
              rw [has_snoc, Bool.or_eq_true, decide_eq_true_iff]
              rw [← hG1.out] at hg
              cases gone with
              | false => exact .inl (h.out.gin g hg)
              | true =>
                rcases List.mem_append.1 (show g ∈ G0 ++ [(x.c, x.k)] from hg) with e | e
                · exact .inl (h.out.gin g e)
                · exact .inr (List.mem_singleton.1 e).symm
            · intro z hz
              rcases List.mem_append.1 hz with e | e
              · exact h.out.wf z e
              · rw [List.mem_singleton.1 e]; exact hwf
            · rw [← ht2.out, insH_len, h.out.tl, List.length_append]; rfl
          · exact fun b hb => (show W.grownBy (putL W pz (lvx xv q5)) (some pz) from putL_rx _ _ _).block b hb.2 (fun e => hGz b hb.1 (by injection e))
          · exact fun b hb => hlo b hb.1
          · exact (((((((((hE7.setCell hpl _).setCell hpl _).setCell hpl _).setCell hpl _).setCell hpl _).setCell hpl _).setCell hpl _).setCell hpl _).setCell hpl _))
        clear hE7 hz1 hz2 hlF hGz hlo hnF hL7 h4 h5 hwi j0 j1 j2 j3 j4 j5 j6 j7 b8 hR
        obtain ⟨k0, k1, k2, k3, k4, k5, k6, k7, k8⟩ := hbz.cells
        have f0 := hbz.thaw 0
        have f1 := hbz.thaw 1
        have f2 := hbz.thaw 2
        have f3 := hbz.thaw 3
        have f4 := hbz.thaw 4
        have f5 := hbz.thaw 5
        have f6 := hbz.thaw 6
        have f7 := hbz.thaw 7
        have f8 := hbz.thaw 8
        have hz := Lib.hid (hbz.put (lvx xv q5)).cells
        clear hbz
        go_wp2
        obtain ⟨z0, z1, z2, z3, z4, z5, z6, z7, z8⟩ := hz.out
        exact bodyPost_ret (v := .tuple #[lsv (lvx xv q5), .nilIface]) (by simp [results, Try.results11, go_sem, z0, z1, z2, z3, z4, z5, z6, z7, z8]) rfl ⟨_, _, t2, ad2, rfl, hend.out⟩
    · refine softR_val 67 _ (by kernel_rfl) rfl rfl ?_
      intro a W hx hout hdep
      have ev9 : a.tmps[9]?.getD undef = .pointer (some ⟨qi, 0, none⟩) := by rw [← Array.getD_eq_getD_getElem?]; exact hout 9 (by show 9 ∉ [67, 68, 69, 70, 71, 72]; decide)
      have q0 := hx.keep j0
      have q1 := hx.keep j1
      have q2 := hx.keep j2
      have q3 := hx.keep j3
      have q4 := hx.keep j4
      have q5 := hx.keep j5
      have q6 := hx.keep j6
      have q7 := hx.keep j7
      refine ⟨rfl, ixv xv, W, ?_, rfl, Ext.refl _⟩
      simp [ev9, q0, q1, q2, q3, q4, q5, q6, q7, execOp, go_sem]
    · refine softR_val 68 _ (by kernel_rfl) rfl rfl ?_
      intro a W hx hout hdep
      have ev3 : a.tmps[3]?.getD undef = .pointer (some ⟨pb, 0, none⟩) := by rw [← Array.getD_eq_getD_getElem?]; exact hout 3 (by show 3 ∉ [67, 68, 69, 70, 71, 72]; decide)
      refine ⟨rfl, .pointer (some ⟨pb, 8, none⟩), W, ?_, rfl, Ext.refl _⟩
      simp [ev3, execOp, go_sem]
    · refine softR_val 69 _ (by kernel_rfl) rfl rfl ?_
      intro a W hx hout hdep
      have ev68 : a.tmps[68]?.getD undef = .pointer (some ⟨pb, 8, none⟩) := by rw [← Array.getD_eq_getD_getElem?]; exact (hdep ⟨1, .data⟩ (by simp) rfl 68 _ rfl).1
      have q8 := hx.keep b8
      refine ⟨rfl, .pointer y.p, W, ?_, rfl, Ext.refl _⟩
      simp [ev68, q8, execOp, go_sem]
    · refine softR_val 70 _ (by kernel_rfl) rfl rfl ?_
      intro a W hx hout hdep
      have ev8 : a.tmps[8]?.getD undef = Vp nq := by rw [← Array.getD_eq_getD_getElem?]; exact hout 8 (by show 8 ∉ [67, 68, 69, 70, 71, 72]; decide)
      refine ⟨rfl, Vp nq, W, ?_, rfl, Ext.refl _⟩
      simp [ev8, execOp, go_sem]
    · refine softR_call 71 _ (by kernel_rfl) rfl rfl ?_
      intro a W hx hout hdep
      have ev69 : a.tmps[69]?.getD undef = .pointer y.p := by rw [← Array.getD_eq_getD_getElem?]; exact (hdep ⟨2, .data⟩ (by simp) rfl 69 _ rfl).1
      have ev70 : a.tmps[70]?.getD undef = Vp nq := by rw [← Array.getD_eq_getD_getElem?]; exact (hdep ⟨3, .data⟩ (by simp) rfl 70 _ rfl).1
      refine ⟨rfl, 36, #[.pointer y.p, Vp nq], ?_, ?_⟩
      · simp [ev69, ev70, execOp, go_sem]
      · exact (hwi.out W hx).mono (by rintro e W2 ⟨v, rfl, h1, h2⟩; exact ⟨_, rfl, ⟨v, rfl, h1⟩, h2⟩)
    · refine softR_val 72 _ (by kernel_rfl) rfl rfl ?_
      intro a W hx hout hdep
      have ev67 : a.tmps[67]?.getD undef = ixv xv := by rw [← Array.getD_eq_getD_getElem?]; exact (hdep ⟨0, .data⟩ (by simp) rfl 67 _ rfl).1
      have tl71 := (hdep ⟨4, .data⟩ (by simp) rfl 71 _ rfl).1
      obtain ⟨v9, e9, hv9⟩ := tl71
      obtain ⟨p2, rfl⟩ := hv9.ptr
      rw [Array.getD_eq_getD_getElem?] at e9
      refine ⟨rfl, lsv (lvx xv p2), W, ?_, ⟨p2, rfl, hv9⟩, Ext.refl _⟩
      simp [ev67, execOp, go_sem, e9]
  · refine softV_val 49 _ (by kernel_rfl) rfl rfl ?_
    intro a W hx hpre hout hdep
    have ev3 : a.tmps[3]?.getD undef = .pointer (some ⟨pb, 0, none⟩) := by rw [← Array.getD_eq_getD_getElem?]; exact hout 3 (by show 3 ∉ [49, 50, 51, 52, 53, 54, 55, 56, 57, 58, 59, 60, 48, 61, 62, 9, 10]; decide)
    refine ⟨rfl, .pointer (some ⟨pb, 0, none⟩), W, ?_, rfl, Ext.refl _⟩
    simp [ev3, execOp, go_sem]
  · refine softV_val 50 _ (by kernel_rfl) rfl rfl ?_
    intro a W hx hpre hout hdep
    have ev49 : a.tmps[49]?.getD undef = .pointer (some ⟨pb, 0, none⟩) := by rw [← Array.getD_eq_getD_getElem?]; exact (hdep ⟨0, .data⟩ (by simp) rfl 49 _ rfl (.inl (by simp))).1
    have hE := hx.1 (Ext.refl _)
    have q0 := hE.keep b0
    have q1 := hE.keep b1
    have q2 := hE.keep b2
    have q3 := hE.keep b3
    have q4 := hE.keep b4
    have q5 := hE.keep b5
    have q6 := hE.keep b6
    have q7 := hE.keep b7
    refine ⟨rfl, ixv (xl y), W, ?_, rfl, Ext.refl _⟩
    simp [ev49, q0, q1, q2, q3, q4, q5, q6, q7, execOp, go_sem]
  · refine softV_val 51 _ (by kernel_rfl) rfl rfl ?_
    intro a W hx hpre hout hdep
    have ev3 : a.tmps[3]?.getD undef = .pointer (some ⟨pb, 0, none⟩) := by rw [← Array.getD_eq_getD_getElem?]; exact hout 3 (by show 3 ∉ [49, 50, 51, 52, 53, 54, 55, 56, 57, 58, 59, 60, 48, 61, 62, 9, 10]; decide)
    have hE := hx.1 (Ext.refl _)
    have q0 := hE.keep b0
    have q1 := hE.keep b1
    have q2 := hE.keep b2
    have q3 := hE.keep b3
    have q4 := hE.keep b4
    have q5 := hE.keep b5
    have q6 := hE.keep b6
    have q7 := hE.keep b7
    have q8 := hE.keep b8
    refine ⟨rfl, lsv y, W, ?_, rfl, Ext.refl _⟩
    simp [ev3, q0, q1, q2, q3, q4, q5, q6, q7, q8, execOp, go_sem]
  · refine softV_val 52 _ (by kernel_rfl) rfl rfl ?_
    intro a W hx hpre hout hdep
    have ev8 : a.tmps[8]?.getD undef = Vp nq := by rw [← Array.getD_eq_getD_getElem?]; exact hout 8 (by show 8 ∉ [49, 50, 51, 52, 53, 54, 55, 56, 57, 58, 59, 60, 48, 61, 62, 9, 10]; decide)
    refine ⟨rfl, Vp nq, W, ?_, rfl, Ext.refl _⟩
    simp [ev8, execOp, go_sem]
  · refine softV_call 53 _ (by kernel_rfl) rfl rfl ?_
    intro a W hx hpre hout hdep
    have ev51 : a.tmps[51]?.getD undef = lsv y := by rw [← Array.getD_eq_getD_getElem?]; exact (hdep ⟨2, .data⟩ (by simp) rfl 51 _ rfl (.inl (by simp))).1
    have ev52 : a.tmps[52]?.getD undef = Vp nq := by rw [← Array.getD_eq_getD_getElem?]; exact (hdep ⟨3, .data⟩ (by simp) rfl 52 _ rfl (.inl (by simp))).1
    refine ⟨rfl, 35, #[lsv y, Vp nq], ?_, ?_⟩
    · simp [ev51, ev52, execOp, go_sem]
    · exact (hpo.out W (hx.1 (Ext.refl _))).mono (by rintro e W2 ⟨p, rfl, h1, h2⟩; exact ⟨_, rfl, ⟨p, rfl, h1⟩, h2⟩)
  · refine softV_val 54 _ (by kernel_rfl) rfl rfl ?_
    intro a W hx hpre hout hdep
    have ev4 : a.tmps[4]?.getD undef = .pointer (some ⟨pi, 0, none⟩) := by rw [← Array.getD_eq_getD_getElem?]; exact hout 4 (by show 4 ∉ [49, 50, 51, 52, 53, 54, 55, 56, 57, 58, 59, 60, 48, 61, 62, 9, 10]; decide)
    refine ⟨rfl, .pointer (some ⟨pi, 0, none⟩), W, ?_, rfl, Ext.refl _⟩
    simp [ev4, execOp, go_sem]
  · refine softV_val 55 _ (by kernel_rfl) rfl rfl ?_
    intro a W hx hpre hout hdep
    have ev54 : a.tmps[54]?.getD undef = .pointer (some ⟨pi, 0, none⟩) := by rw [← Array.getD_eq_getD_getElem?]; exact (hdep ⟨5, .data⟩ (by simp) rfl 54 _ rfl (.inl (by simp))).1
    have hE := hx.1 (Ext.refl _)
    have q0 := hE.keep i0
    have q1 := hE.keep i1
    refine ⟨rfl, idv x.c x.k, W, ?_, rfl, Ext.refl _⟩
    simp [ev54, q0, q1, execOp, go_sem]
  · refine softV_val 56 _ (by kernel_rfl) rfl rfl ?_
    intro a W hx hpre hout hdep
    have ev4 : a.tmps[4]?.getD undef = .pointer (some ⟨pi, 0, none⟩) := by rw [← Array.getD_eq_getD_getElem?]; exact hout 4 (by show 4 ∉ [49, 50, 51, 52, 53, 54, 55, 56, 57, 58, 59, 60, 48, 61, 62, 9, 10]; decide)
    refine ⟨rfl, .pointer (some ⟨pi, 6, none⟩), W, ?_, rfl, Ext.refl _⟩
    simp [ev4, execOp, go_sem]
  · refine softV_val 57 _ (by kernel_rfl) rfl rfl ?_
    intro a W hx hpre hout hdep
    have ev56 : a.tmps[56]?.getD undef = .pointer (some ⟨pi, 6, none⟩) := by rw [← Array.getD_eq_getD_getElem?]; exact (hdep ⟨7, .data⟩ (by simp) rfl 56 _ rfl (.inl (by simp))).1
    have hE := hx.1 (Ext.refl _)
    have q6 := hE.keep i6
    refine ⟨rfl, .int .i32 x.ch, W, ?_, rfl, Ext.refl _⟩
    simp [ev56, q6, execOp, go_sem]
  · refine softV_val 58 _ (by kernel_rfl) rfl rfl ?_
    intro a W hx hpre hout hdep
    have ev2 : a.tmps[2]?.getD undef = .bool gone := by rw [← Array.getD_eq_getD_getElem?]; exact hout 2 (by show 2 ∉ [49, 50, 51, 52, 53, 54, 55, 56, 57, 58, 59, 60, 48, 61, 62, 9, 10]; decide)
    refine ⟨rfl, .bool gone, W, ?_, rfl, Ext.refl _⟩
    simp [ev2, execOp, go_sem]
  · refine softV_val 59 _ (by kernel_rfl) rfl rfl ?_
    intro a W hx hpre hout hdep
    have ev55 : a.tmps[55]?.getD undef = idv x.c x.k := by rw [← Array.getD_eq_getD_getElem?]; exact (hdep ⟨6, .data⟩ (by simp) rfl 55 _ rfl (.inl (by simp))).1
    have ev57 : a.tmps[57]?.getD undef = .int .i32 x.ch := by rw [← Array.getD_eq_getD_getElem?]; exact (hdep ⟨8, .data⟩ (by simp) rfl 57 _ rfl (.inl (by simp))).1
    have ev58 : a.tmps[58]?.getD undef = .bool gone := by rw [← Array.getD_eq_getD_getElem?]; exact (hdep ⟨9, .data⟩ (by simp) rfl 58 _ rfl (.inl (by simp))).1
    refine ⟨rfl, env ⟨x.c, x.k, x.ch, gone⟩, W, ?_, rfl, Ext.refl _⟩
    simp [ev55, ev57, ev58, execOp, go_sem]
  · refine softV_call 60 _ (by kernel_rfl) rfl rfl ?_
    intro a W hx hpre hout hdep
    have ev50 : a.tmps[50]?.getD undef = ixv (xl y) := by rw [← Array.getD_eq_getD_getElem?]; exact (hdep ⟨1, .data⟩ (by simp) rfl 50 _ rfl (.inl (by simp))).1
    have tl53 := (hdep ⟨4, .data⟩ (by simp) rfl 53 _ rfl (.inl (by simp))).1
    have ev59 : a.tmps[59]?.getD undef = env ⟨x.c, x.k, x.ch, gone⟩ := by rw [← Array.getD_eq_getD_getElem?]; exact (hdep ⟨10, .data⟩ (by simp) rfl 59 _ rfl (.inl (by simp))).1
    obtain ⟨p9, e9, hp9⟩ := tl53
    have ev53 : a.tmps[53]?.getD undef = Vi (p9 : Int) := by rw [← Array.getD_eq_getD_getElem?]; exact e9
    refine ⟨rfl, 34, #[ixv (xl y), Vi (p9 : Int), env ⟨x.c, x.k, x.ch, gone⟩], ?_, ?_⟩
    · simp [ev50, ev59, execOp, go_sem, ev53]
    · exact hput.out W (hx.1 (Ext.refl _)) p9 hp9
  · refine softV_val 48 _ (by kernel_rfl) rfl rfl ?_
    intro a W hx hpre hout hdep
    have tl60 := (hdep ⟨11, .data⟩ (by simp) rfl 60 _ rfl (.inl (by simp))).1
    obtain ⟨yv, eyv, hI9⟩ := tl60
    rw [Array.getD_eq_getD_getElem?] at eyv
    refine ⟨rfl, .tuple #[ixv yv, .nilIface], W, ?_, ⟨yv, rfl, hI9⟩, Ext.refl _⟩
    simp [eyv, execOp, go_sem]
  · refine softV_val 61 _ (by kernel_rfl) rfl rfl ?_
    intro a W hx hpre hout hdep
    have tl48 := (hdep ⟨12, .data⟩ (by simp) rfl 48 _ rfl (.inl (by simp))).1
    obtain ⟨yv, eyv, hI9⟩ := tl48
    rw [Array.getD_eq_getD_getElem?] at eyv
    refine ⟨rfl, ixv yv, W, ?_, ⟨yv, rfl, hI9⟩, Ext.refl _⟩
    simp [eyv, execOp, go_sem]
  · refine softV_val 62 _ (by kernel_rfl) rfl rfl ?_
    intro a W hx hpre hout hdep
    have tl48 := (hdep ⟨12, .data⟩ (by simp) rfl 48 _ rfl (.inl (by simp))).1
    obtain ⟨yv, eyv, hI9⟩ := tl48
    rw [Array.getD_eq_getD_getElem?] at eyv
    refine ⟨rfl, .nilIface, W, ?_, rfl, Ext.refl _⟩
    simp [eyv, execOp, go_sem]
  · refine softV_val 9 _ (by kernel_rfl) rfl rfl ?_
    intro a W hx hpre hout hdep
    refine ⟨rfl, Vp W.heap.size, W.alloc (.cells #[.slice none 0 0, .pointer none, .pointer none, Vi 0, Vi 0, Vi 0, Vq 0, Vq 0] 30), ?_, ⟨_, rfl, Nat.le_trans hsz.out (hx.1 (Ext.refl _)).size, heap_alloc_new W _⟩, (Ext.refl W).alloc _⟩
    simp [execOp, go_sem]
  · rw [if_pos (by rfl)]
    refine softD_none 10 (by kernel_rfl) rfl rfl ?_
    intro a W hx hpre hout hdep
    have tl9 := (hdep ⟨15, .data⟩ (by simp) rfl 9 _ rfl).1
    have tl61 := (hdep ⟨13, .data⟩ (by simp) rfl 61 _ rfl).1
    obtain ⟨qb, eqb, hqb, hzb⟩ := tl9
    obtain ⟨yv, eyv, F2, hI2, hF2⟩ := tl61
    have eqb0 := eqb
    rw [Array.getD_eq_getD_getElem?] at eqb eyv
    have hX := hx.1 (Ext.refl _)
    have kc0 := cell_of_row W qb 0 _ _ _ hzb
    have fc0 := frozen_of_row W qb 0 _ _ hzb
    have kc1 := cell_of_row W qb 1 _ _ _ hzb
    have fc1 := frozen_of_row W qb 1 _ _ hzb
    have kc2 := cell_of_row W qb 2 _ _ _ hzb
    have fc2 := frozen_of_row W qb 2 _ _ hzb
    have kc3 := cell_of_row W qb 3 _ _ _ hzb
    have fc3 := frozen_of_row W qb 3 _ _ hzb
    have kc4 := cell_of_row W qb 4 _ _ _ hzb
    have fc4 := frozen_of_row W qb 4 _ _ hzb
    have kc5 := cell_of_row W qb 5 _ _ _ hzb
    have fc5 := frozen_of_row W qb 5 _ _ hzb
    have kc6 := cell_of_row W qb 6 _ _ _ hzb
    have fc6 := frozen_of_row W qb 6 _ _ hzb
    have kc7 := cell_of_row W qb 7 _ _ _ hzb
    have fc7 := frozen_of_row W qb 7 _ _ hzb
    have hx4 : Ext w5 W → Ext w5 (((((((((W.setCell ⟨qb, 0, none⟩ (.slice yv.A yv.n yv.c)).setCell ⟨qb, 1, none⟩ (.pointer yv.l)).setCell ⟨qb, 2, none⟩ (.pointer yv.r)).setCell ⟨qb, 3, none⟩ (Vi yv.h)).setCell ⟨qb, 4, none⟩ (Vi yv.m)).setCell ⟨qb, 5, none⟩ (Vi yv.s)).setCell ⟨qb, 6, none⟩ (Vq yv.lo)).setCell ⟨qb, 7, none⟩ (Vq yv.hi))) := fun h => Ext.st8 h (by have := hs.out; omega) (.slice yv.A yv.n yv.c) (.pointer yv.l) (.pointer yv.r) (Vi yv.h) (Vi yv.m) (Vi yv.s) (Vq yv.lo) (Vq yv.hi)
    have hfr := fun (s : Nat) (hs : s ≠ qb) => st8_other (w := W) hs (.slice yv.A yv.n yv.c) (.pointer yv.l) (.pointer yv.r) (Vi yv.h) (Vi yv.m) (Vi yv.s) (Vq yv.lo) (Vq yv.hi)
    have hst : ∀ (F : Nat → Prop) (v : Value) (l : List En), Ix F W v l → Ix (fun b => F b ∧ b ≠ qb) (((((((((W.setCell ⟨qb, 0, none⟩ (.slice yv.A yv.n yv.c)).setCell ⟨qb, 1, none⟩ (.pointer yv.l)).setCell ⟨qb, 2, none⟩ (.pointer yv.r)).setCell ⟨qb, 3, none⟩ (Vi yv.h)).setCell ⟨qb, 4, none⟩ (Vi yv.m)).setCell ⟨qb, 5, none⟩ (Vi yv.s)).setCell ⟨qb, 6, none⟩ (Vq yv.lo)).setCell ⟨qb, 7, none⟩ (Vq yv.hi))) v l := fun F v l hI => (hI.avoid hzb).frame (fun b hb => hfr b hb.2)
    refine ⟨rfl, ((((((((W.setCell ⟨qb, 0, none⟩ (.slice yv.A yv.n yv.c)).setCell ⟨qb, 1, none⟩ (.pointer yv.l)).setCell ⟨qb, 2, none⟩ (.pointer yv.r)).setCell ⟨qb, 3, none⟩ (Vi yv.h)).setCell ⟨qb, 4, none⟩ (Vi yv.m)).setCell ⟨qb, 5, none⟩ (Vi yv.s)).setCell ⟨qb, 6, none⟩ (Vq yv.lo)).setCell ⟨qb, 7, none⟩ (Vq yv.hi)), ?_, ⟨hx4, fun F v l hI => ⟨_, fun b hb => hb.1, hst F v l hI⟩⟩, qb, yv, eqb0, hqb, st8_row hzb (.slice yv.A yv.n yv.c) (.pointer yv.l) (.pointer yv.r) (Vi yv.h) (Vi yv.m) (Vi yv.s) (Vq yv.lo) (Vq yv.hi), _, hst _ _ _ hI2, fun b hb => hF2 b hb.1⟩
    simp [eqb, eyv, kc0, fc0, kc1, fc1, kc2, fc2, kc3, fc3, kc4, fc4, kc5, fc5, kc6, fc6, kc7, fc7, execOp, go_sem]

end Go.Proofs.Ytmpomammieenjaa

namespace Go.Proofs.Ytmpomammieenjaa
open Go.ChangeShapes Go.WideShapes Go.ChangeAt Go.RowKit Go.Sort
set_option linter.unusedVariables false
set_option linter.unusedSimpArgs false
set_option linter.unusedSimpArgs false

theorem PV.avoidL {F : Nat → Prop} {W : World} {q : Nat} {T : TypeId} (hq : W.heap[q]? = some (.cells #[.slice none 0 0, .pointer none, .pointer none, Vi 0, Vi 0, Vi 0, Vq 0, Vq 0, .pointer none] T (0, 0))) :
    ∀ {t : Tr} {c l r : Value}, (t = .leaf [] ∨ okR t) → PV F W t c l r → PV (fun b => F b ∧ b ≠ q) W t c l r
  | .leaf l, c, lf, rt, _, ⟨h1, h2, A, cap, h3, h4, h5, h6⟩ => ⟨h1, h2, A, cap, h3, h4, h5, fun h0 => by
      obtain ⟨k, o, e, hf⟩ := h6 h0
      refine ⟨k, o, e, hf, fun hk => ?_⟩
      subst hk
      subst e
      obtain ⟨b', o', x, e, hx, hc⟩ := h5.at (k := 0) h0
      injection e with e
      injection e with e1 e2
      subst e1
      subst e2
      have h9 := hc.c0
      have h8 : W.cell? ⟨k, o + 0 * 4, none⟩ = (#[.slice none 0 0, .pointer none, .pointer none, Vi 0, Vi 0, Vi 0, Vq 0, Vq 0, .pointer none] : Array Value)[o + 0 * 4]? := by
        simp only [World.cell?, hq]
        rfl
      rw [h8] at h9
      generalize o + 0 * 4 = m at h9
      match m, h9 with
      | 0, h9 => simp at h9
      | 1, h9 => simp at h9
      | 2, h9 => simp at h9
      | 3, h9 => simp at h9
      | 4, h9 => simp at h9
      | 5, h9 => simp at h9
      | 6, h9 => simp at h9
      | 7, h9 => simp at h9
      | 8, h9 => simp at h9
      | m + 9, h9 => simp at h9⟩
  | .node a b, c, lf, rt, hok, hv => by
      have hok : okR a ∧ okR b := by
        rcases hok with h | h
        · cases h
        · exact h
      obtain ⟨rfl, p, s, rfl, rfl, ⟨hp, ca, la, ra, xa, va⟩, hs, cb, lb, rb, xb, vb⟩ := hv
      have hz := cell_of_row W q 4 _ _ _ hq
      have hne : ∀ {p : Nat} {t : Tr} {c l r : Value} {hh ss lo hi : Int}, okR t → PtC W p c l r hh (cnt t) ss lo hi → p ≠ q := by
        intro p t c l r hh ss lo hi hok hx e
        subst e
        have h1 := hx.c4
        rw [hz] at h1
        have h2 := ok_pos hok
        simp at h1
        omega
      exact ⟨rfl, p, s, rfl, rfl, ⟨⟨hp, hne hok.1 xa⟩, ca, la, ra, xa, PV.avoidL hq (.inr hok.1) va⟩, ⟨hs, hne hok.2 xb⟩, cb, lb, rb, xb, PV.avoidL hq (.inr hok.2) vb⟩
theorem Ix.avoidL {F : Nat → Prop} {W : World} {v : Value} {l : List En} {q : Nat} {T : TypeId} (h : Ix F W v l) (hq : W.heap[q]? = some (.cells #[.slice none 0 0, .pointer none, .pointer none, Vi 0, Vi 0, Vi 0, Vq 0, Vq 0, .pointer none] T (0, 0))) : Ix (fun b => F b ∧ b ≠ q) W v l := by
  obtain ⟨t, x, h1, h2, h3, h4, h5, h6, h7, h8, h9, h10⟩ := h
  exact ⟨t, x, h1, h2, h3, h4, h5, h6, h7, h8, h9.avoidL hq h3, fun b hb => h10 b hb.1⟩
theorem HV.avoidL {F : Nat → Prop} {W : World} {ad : I2 → Nat} {q : Nat} (hq : BxL W q zLv) : ∀ {t : HT} {v : Value}, HV F W ad t v → HV (fun b => F b ∧ b ≠ q) W ad t v
  | .nil, v, h => h
  | .node l a r, v, ⟨b, e, hf, vl, vr, hc, hl, hr⟩ => ⟨b, e, ⟨hf, fun e2 => by
      subst e2
      have h1 := hc.c3
      rw [hq.cells.2.2.2.1] at h1
      simp only [Option.some.injEq, Value.int.injEq, true_and] at h1
      have h2 : (0 : Int) = ((hh (.node l a r) : Nat) : Int) := h1
      rw [hh_node] at h2
      omega⟩, vl, vr, hc, HV.avoidL hq hl, HV.avoidL hq hr⟩
theorem NdL.avoidL {F : Nat → Prop} {W : World} {ad : I2 → Nat} {L : List It} {q : Nat} (hq : BxL W q zLv) (h : NdL F W ad L) : NdL (fun b => F b ∧ b ≠ q) W ad L :=
  ⟨h.kn, fun x hm => by
    obtain ⟨h0, on, far, r, w, h1, h2, h3, h4, h5, h6⟩ := h.at' x hm
    refine ⟨⟨h0, fun e => ?_⟩, on, far, r, w, h1, h2, h3, h4, h5, h6⟩
    have h7 := h6.cells.c0
    rw [e, hq.cells.1] at h7
    simp at h7, h.inj⟩
theorem LC.avoidL {F : Nat → Prop} {W : World} {y : Lv} {L : List It} {G : List I2} {t : HT} {ad : I2 → Nat} {q : Nat} (h : LC F W y L G t ad) (hq : BxL W q zLv) : LC (fun b => F b ∧ b ≠ q) W y L G t ad :=
  ⟨h.ix.avoidL hq, HV.avoidL hq h.hv, NdL.avoidL hq h.nd, h.srt, h.mem, h.gin, h.wf, fun b hb => h.lt b hb.1, h.tl⟩
end Go.Proofs.Ytmpomammieenjaa

namespace Go.Proofs.Ytmpomammieenjaa
open Go.ChangeShapes Go.WideShapes Go.ChangeAt Go.RowKit Go.Sort
set_option linter.unusedVariables false
set_option linter.unusedSimpArgs false
set_option linter.unusedSimpArgs false
attribute [local go_sem] World.cell?_alloc_some

def hbtTab (y : Lv) (p : Nat) (a1 a2 c1 c2 : Int) : SoftTab := [(29, fun z9 W => z9 = lsv y),
  (30, fun z9 W => z9 = Vi p),
  (31, fun z9 W => z9 = idv a1 a2),
  (32, fun z9 W => z9 = lsv y),
  (33, fun z9 W => z9 = Vi p),
  (34, fun z9 W => z9 = Vi ((p : Int) + 1)),
  (35, fun z9 W => z9 = idv c1 c2)]
theorem hbtTab_mono (y : Lv) (p : Nat) (a1 a2 c1 c2 : Int) (Rel : World → World → Prop) (hR : ∀ W W', Rel W W' → Ext W W') : SoftMonoR Rel (hbtTab y p a1 a2 c1 c2) := by
  intro p hp v W W' h hx
  simp only [hbtTab, List.mem_cons, List.not_mem_nil, or_false] at hp
  rcases hp with rfl | rfl | rfl | rfl | rfl | rfl | rfl
  all_goals first
    | exact h
    | exact NewP.ext h (hR _ _ hx)

def hshTab (y : Lv) (pl no co p : Nat) (Ao : Option Addr) (sa j : Nat) (c k : Int) : SoftTab := [(39, fun z9 W => z9 = .slice Ao no co),
  (40, fun z9 W => z9 = lsv y),
  (41, fun z9 W => z9 = lsv y),
  (42, fun z9 W => z9 = Vi sa),
  (43, fun z9 W => z9 = Vi j),
  (44, fun z9 W => z9 = Vi ((sa : Int) + (j : Int))),
  (45, fun z9 W => z9 = Vi p),
  (46, fun z9 W => z9 = idv c k),
  (47, fun z9 W => ∃ q, z9 = .slice (some ⟨q, 0, none⟩) 1 1 ∧ OdS W (some ⟨q, 0, none⟩) [(c, k)])]
theorem hshTab_mono (y : Lv) (pl no co p : Nat) (Ao : Option Addr) (sa j : Nat) (c k : Int) (Rel : World → World → Prop) (hR : ∀ W W', Rel W W' → Ext W W') : SoftMonoR Rel (hshTab y pl no co p Ao sa j c k) := by
  intro p hp v W W' h hx
  simp only [hshTab, List.mem_cons, List.not_mem_nil, or_false] at hp
  rcases hp with rfl | rfl | rfl | rfl | rfl | rfl | rfl | rfl | rfl
  all_goals first
    | exact h
    | exact (by obtain ⟨q, h1, h2⟩ := h; exact ⟨q, h1, h2.ext (hR _ _ hx)⟩)

theorem idAtE_ls {F : Nat → Prop} {W : World} {y : Lv} {L : List It} {G : List I2} {t : HT} {ad : I2 → Nat} (h : LC F W y L G t ad) (hl : L.length ≤ 1000) {q : Nat} (hq : q ≤ L.length) :
    Calls Try.prog 45 #[lsv y, Vi (q : Int)] W fun e w' => e = .returned (idv (idAt (entL L G) q).1 (idAt (entL L G) q).2) ∧ Ext W w' := by
  by_cases hlt : q < (ordL L).length
  · obtain ⟨a, ha⟩ : ∃ a, (ordL L)[q]? = some a := ⟨_, List.getElem?_eq_getElem hlt⟩
    rw [idAt_some (ent_at G ha)]
    exact h.idOf hl ha
  · have := ord_len' h.nd.kn
    rw [idAt_none (by rw [h.len]; omega)]
    exact h.idOfNo hl (by omega) (.inr (by omega))
theorem LC.shown {F : Nat → Prop} {W : World} {y : Lv} {L : List It} {G : List I2} {t : HT} {ad : I2 → Nat} (h : LC F W y L G t ad) (hl : L.length ≤ 1000) {s : Nat} (hs : (shownE (entL L G)).length = s) :
    Calls Try.prog 44 #[ixv (xl y)] W fun e w' => e = .returned (Vi (s : Int)) ∧ Ext W w' := by
  rw [← hs]
  exact shown_ix W _ _ h.ix (by rw [h.len]; exact hl)

set_option maxRecDepth 100000 in
set_option maxHeartbeats 16000000 in
theorem LC.betweenNo {F : Nat → Prop} {W : World} {y : Lv} {L : List It} {G : List I2} {t : HT} {ad : I2 → Nat} (h : LC F W y L G t ad) (hl : L.length ≤ 1000) (z : Int) (hz : -9223372036854775808 ≤ z ∧ z ≤ 9223372036854775807) (hno : z < 0 ∨ ((shownE (entL L G)).length : Int) < z) :
    Calls Try.prog 17 #[lsv y, Vi z] W fun e w' => e = .returned (.tuple #[idv 0 0, idv 0 0, errv 3]) ∧ Ext W w' := by
  obtain ⟨s, hs⟩ : ∃ s, (shownE (entL L G)).length = s := ⟨_, rfl⟩
  have hsh := Lib.hid (fun W' (hx : Ext W W') => (h.ext hx).shown hl hs)
  have hsn : s ≤ 1000 := by rw [← hs]; have := shown_len (entL L G) 0; rw [h.len] at this; exact Nat.le_trans this hl
  rw [hs] at hno
  clear h hs
  have x0 : Ext W (((W.alloc (lbox y)).alloc (.cells #[.int .u32 0, .int .u32 0] 41)).alloc (.cells #[.int .u32 0, .int .u32 0] 41)) := (((Ext.refl _).alloc _).alloc _).alloc _
  have b4 := (BoxO.new (W.alloc (lbox y)) 0 0).ext ((Ext.refl _).alloc (.cells #[.int .u32 0, .int .u32 0] 41))
  have b5 := BoxO.new ((W.alloc (lbox y)).alloc (.cells #[.int .u32 0, .int .u32 0] 41)) 0 0
  rw [show ((W.alloc (lbox y)).alloc (.cells #[.int .u32 0, .int .u32 0] 41)).heap.size = W.heap.size + 1 + 1 by simp] at b5
  rw [show (W.alloc (lbox y)).heap.size = W.heap.size + 1 by simp] at b4
  have hl4 : W.heap.size ≤ W.heap.size + 1 := by omega
  have hl5 : W.heap.size ≤ W.heap.size + 1 + 1 := by omega
  have h45 : W.heap.size + 1 ≠ W.heap.size + 1 + 1 := by omega
  by_cases hz0 : z < 0
  · have hd : decide (z < 0) = true := decide_eq_true hz0
    obtain ⟨y0, y1, f40, f41⟩ := b4.cells
    obtain ⟨v0, v1, f50, f51⟩ := b5.cells
    have hE := Lib.hid x0
    have hz := Lib.hid (And.intro y0 (And.intro y1 (And.intro v0 v1)))
    clear y0 y1 v0 v1 b4 b5 x0 hsh hno hz0
    go_enter Try.func17, Try.ntmps17
    go_wp2
    obtain ⟨y0, y1, v0, v1⟩ := hz.out
    exact bodyPost_ret (v := .tuple #[idv 0 0, idv 0 0, errv 3]) (by simp [results, Try.results17, go_sem, y0, y1, v0, v1, errv]) rfl ⟨rfl, hE.out⟩
  · have hd : decide (z < 0) = false := decide_eq_false hz0
    have hd2 : decide ((s : Int) < z) = true := decide_eq_true (by omega)
    clear hno hz0
    go_enter Try.func17, Try.ntmps17
    go_wp2_with fail
    refine (hsh.out _ x0).mono ?_
    rintro e w1 ⟨rfl, x1⟩
    replace b4 := b4.ext x1
    replace b5 := b5.ext x1
    replace x0 := x0.trans x1
    clear x1 hsh
    obtain ⟨p5, h5⟩ : ∃ p, W.heap.size + 1 + 1 = p := ⟨_, rfl⟩
    obtain ⟨p4, h4⟩ : ∃ p, W.heap.size + 1 = p := ⟨_, rfl⟩
    rw [h5] at b5 hl5 h45 ⊢
    rw [h4] at b4 hl4 h45 ⊢
    clear h4 h5
    obtain ⟨_, _, f40, f41⟩ := b4.cells
    obtain ⟨_, _, f50, f51⟩ := b5.cells
    obtain ⟨y0, y1, _, _⟩ := ((b4.set 0 0).other h45 (Vu 0) (Vu 0)).cells
    obtain ⟨v0, v1, _, _⟩ := ((b5.other (fun e => h45 e.symm) (Vu 0) (Vu 0)).set 0 0).cells
    have hE := Lib.hid ((((x0.setCell hl4 (p := ⟨p4, 0, none⟩) (Vu 0)).setCell (p := ⟨p4, 1, none⟩) hl4 (Vu 0)).setCell (p := ⟨p5, 0, none⟩) hl5 (Vu 0)).setCell (p := ⟨p5, 1, none⟩) hl5 (Vu 0))
    have hz := Lib.hid (And.intro y0 (And.intro y1 (And.intro v0 v1)))
    clear y0 y1 v0 v1 b4 b5 x0
    go_wp2
    obtain ⟨y0, y1, v0, v1⟩ := hz.out
    exact bodyPost_ret (v := .tuple #[idv 0 0, idv 0 0, errv 3]) (by simp [results, Try.results17, go_sem, y0, y1, v0, v1, errv]) rfl ⟨rfl, hE.out⟩

set_option maxRecDepth 100000 in
set_option maxHeartbeats 16000000 in
theorem LC.between {F : Nat → Prop} {W : World} {y : Lv} {L : List It} {G : List I2} {t : HT} {ad : I2 → Nat} (h : LC F W y L G t ad) (hl : L.length ≤ 1000) (k : Nat) (hk : k ≤ (shownE (entL L G)).length) :
    Calls Try.prog 17 #[lsv y, Vi (k : Int)] W fun e w' => e = .returned (.tuple #[idv (btwE (entL L G) k).1.1 (btwE (entL L G) k).1.2, idv (btwE (entL L G) k).2.1 (btwE (entL L G) k).2.2, .nilIface]) ∧ Ext W w' := by
  obtain ⟨s, hs⟩ : ∃ s, (shownE (entL L G)).length = s := ⟨_, rfl⟩
  have hsh := Lib.hid (fun W' (hx : Ext W W') => (h.ext hx).shown hl hs)
  have hsn : s ≤ 1000 := by rw [← hs]; have := shown_len (entL L G) 0; rw [h.len] at this; exact Nat.le_trans this hl
  have x0 : Ext W (((W.alloc (lbox y)).alloc (.cells #[.int .u32 0, .int .u32 0] 41)).alloc (.cells #[.int .u32 0, .int .u32 0] 41)) := (((Ext.refl _).alloc _).alloc _).alloc _
  have bl := ((BxL.new W y).ext ((Ext.refl _).alloc (.cells #[.int .u32 0, .int .u32 0] 41))).ext ((Ext.refl _).alloc (.cells #[.int .u32 0, .int .u32 0] 41))
  have b4 := (BoxO.new (W.alloc (lbox y)) 0 0).ext ((Ext.refl _).alloc (.cells #[.int .u32 0, .int .u32 0] 41))
  have b5 := BoxO.new ((W.alloc (lbox y)).alloc (.cells #[.int .u32 0, .int .u32 0] 41)) 0 0
  rw [show ((W.alloc (lbox y)).alloc (.cells #[.int .u32 0, .int .u32 0] 41)).heap.size = W.heap.size + 1 + 1 by simp] at b5
  rw [show (W.alloc (lbox y)).heap.size = W.heap.size + 1 by simp] at b4
  have hl4 : W.heap.size ≤ W.heap.size + 1 := by omega
  have hl5 : W.heap.size ≤ W.heap.size + 1 + 1 := by omega
  have h45 : W.heap.size + 1 ≠ W.heap.size + 1 + 1 := by omega
  have hd : decide ((k : Int) < 0) = false := decide_eq_false (by omega)
  have hd1 : ¬ ((k : Int) < 0) := by omega
  have hd2 : decide ((s : Int) < (k : Int)) = false := decide_eq_false (by rw [← hs]; omega)
  have hd3 : decide (s < k) = false := decide_eq_false (by rw [← hs]; omega)
  have hks : k ≤ 1000 := by rw [hs] at hk; omega
  rcases Nat.eq_zero_or_pos k with h0 | h0
  · subst h0
    obtain ⟨⟨c1, c2⟩, hc⟩ : ∃ z : I2, idAt (entL L G) 0 = z := ⟨_, rfl⟩
    have hid0 := Lib.hid (fun W' (hx : Ext W W') => idAtE_ls (h.ext hx) hl (Nat.zero_le L.length))
    have hb : btwE (entL L G) 0 = ((0, 0), idAt (entL L G) 0) := rfl
    rw [hb]
    rw [hc] at hid0 ⊢
    clear h hs hk hc hb
    go_enter Try.func17, Try.ntmps17
    go_wp2_with fail
    refine (hsh.out _ x0).mono ?_
    rintro e w1 ⟨rfl, x1⟩
    replace bl := bl.ext x1
    replace b4 := b4.ext x1
    replace b5 := b5.ext x1
    replace x0 := x0.trans x1
    clear x1 hsh
    obtain ⟨p5, h5⟩ : ∃ p, W.heap.size + 1 + 1 = p := ⟨_, rfl⟩
    obtain ⟨p4, h4⟩ : ∃ p, W.heap.size + 1 = p := ⟨_, rfl⟩
    rw [h5] at b5 hl5 h45 ⊢
    rw [h4] at b4 hl4 h45 ⊢
    clear h4 h5
    obtain ⟨k0, k1, k2, k3, k4, k5, k6, k7, k8⟩ := bl.cells
    have hcall := Lib.hid (hid0.out _ x0)
    replace b4 := Lib.hid b4
    replace b5 := Lib.hid b5
    replace x0 := Lib.hid x0
    clear hid0
    go_wp2_with fail
    refine hcall.out.mono ?_
    rintro e w2 ⟨rfl, x2⟩
    replace b4 := b4.out.ext x2
    replace b5 := b5.out.ext x2
    replace x0 := x0.out.trans x2
    clear x2 hcall k0 k1 k2 k3 k4 k5 k6 k7 k8 bl
    obtain ⟨_, _, f40, f41⟩ := b4.cells
    obtain ⟨_, _, f50, f51⟩ := b5.cells
    obtain ⟨y0, y1, _, _⟩ := ((b4.set 0 0).other h45 (Vu c1) (Vu c2)).cells
    obtain ⟨v0, v1, _, _⟩ := ((b5.other (fun e => h45 e.symm) (Vu 0) (Vu 0)).set c1 c2).cells
    have hE := Lib.hid ((((x0.setCell hl4 (p := ⟨p4, 0, none⟩) (Vu 0)).setCell (p := ⟨p4, 1, none⟩) hl4 (Vu 0)).setCell (p := ⟨p5, 0, none⟩) hl5 (Vu c1)).setCell (p := ⟨p5, 1, none⟩) hl5 (Vu c2))
    have hz := Lib.hid (And.intro y0 (And.intro y1 (And.intro v0 v1)))
    clear y0 y1 v0 v1 b4 b5 x0
    go_wp2
    obtain ⟨y0, y1, v0, v1⟩ := hz.out
    exact bodyPost_ret (v := .tuple #[idv 0 0, idv c1 c2, .nilIface]) (by simp [results, Try.results17, go_sem, y0, y1, v0, v1]) rfl ⟨rfl, hE.out⟩
  · obtain ⟨p, hp⟩ : ∃ p, (shownE (entL L G))[k - 1]? = some p := ⟨_, List.getElem?_eq_getElem (by omega)⟩
    have hpl := shownE_lt hp
    rw [h.len] at hpl
    rw [(btw_pos h0 hp).1]
    have hat := Lib.hid (fun W' (hx : Ext W W') => (h.ext hx).shownAt hl hp)
    have hj1 := Lib.hid (fun W' (hx : Ext W W') => idAtE_ls (h.ext hx) hl (show p ≤ L.length by omega))
    have hj2 := Lib.hid (fun W' (hx : Ext W W') => idAtE_ls (h.ext hx) hl (show p + 1 ≤ L.length by omega))
    generalize idAt (entL L G) p = ra at *
    generalize idAt (entL L G) (p + 1) = rb at *
    obtain ⟨a1, a2⟩ := ra
    obtain ⟨c1, c2⟩ := rb
    have hpz : (p : Int) ≤ 1000 := by omega
    rw [show ((k - 1 : Nat) : Int) = (k : Int) - 1 by omega] at hat
    rw [show ((p + 1 : Nat) : Int) = (p : Int) + 1 by omega] at hj2
    have hd4 : ((k : Int) = 0) = False := by simp; omega
    clear h hs hk hp hpl
    go_enter Try.func17, Try.ntmps17
    go_wp2_with fail
    refine (hsh.out _ x0).mono ?_
    rintro e w1 ⟨rfl, x1⟩
    replace bl := bl.ext x1
    replace b4 := b4.ext x1
    replace b5 := b5.ext x1
    replace x0 := x0.trans x1
    clear x1 hsh
    obtain ⟨pl, h3⟩ : ∃ p, W.heap.size = p := ⟨_, rfl⟩
    obtain ⟨p5, h5⟩ : ∃ p, W.heap.size + 1 + 1 = p := ⟨_, rfl⟩
    obtain ⟨p4, h4⟩ : ∃ p, W.heap.size + 1 = p := ⟨_, rfl⟩
    rw [h5] at b5 hl5 h45 ⊢
    rw [h4] at b4 hl4 h45 ⊢
    have hpp := Lib.hid h3
    rw [h3] at bl ⊢
    clear h3 h4 h5
    obtain ⟨b0, b1, b2, b3, b4', b5', b6, b7, b8⟩ := bl.cells
    have hcall := Lib.hid (hat.out _ x0)
    replace bl := Lib.hid bl
    replace b4 := Lib.hid b4
    replace b5 := Lib.hid b5
    replace x0 := Lib.hid x0
    clear hat
    go_wp2_with fail
    refine hcall.out.mono ?_
    rintro e w2 ⟨rfl, x2⟩
    replace b4 := Lib.hid (b4.out.ext x2)
    replace b5 := Lib.hid (b5.out.ext x2)
    replace bl := bl.out.ext x2
    replace x0 := Lib.hid (x0.out.trans x2)
    clear x2 hcall b0 b1 b2 b3 b4' b5' b6 b7 b8
    obtain ⟨b0, b1, b2, b3, b4', b5', b6, b7, b8⟩ := bl.cells
    have hv4 := b4
    have hv5 := b5
    clear b4 b5
    have b4 := b4'
    have b5 := b5'
    clear b4' b5' bl
    replace hj1 := Lib.hid (fun W' (e : Ext w2 W') => hj1.out W' (x0.out.trans e))
    replace hj2 := Lib.hid (fun W' (e : Ext w2 W') => hj2.out W' (x0.out.trans e))
    have hsub : (binOp .sub 3 (Vi (p : Int)) (Vi 0)) = (binOp .sub 3 (Vi (p : Int)) (Vi 0)) := rfl
    clear hsub
    go_wp2_with fail
    refine wp_soft_frame Ext 7 (hbtTab y p a1 a2 c1 c2) (by kernel_rfl) (by kernel_rfl) (fun _ _ _ => Ext.trans) ((Ext.refl _).drew) rfl (by show List.Nodup [29, 30, 31, 32, 33, 34, 35]; decide) (by show ∀ d ∈ [29, 30, 31, 32, 33, 34, 35], d < 36; decide) (hbtTab_mono y p a1 a2 c1 c2 Ext (fun _ _ h => h)) ?_ ⟨?_, ?_, ?_, ?_, ?_, ?_, ?_, trivial⟩
    · intro W vs hT hR
      match vs, hT with
      | [v0, v1, v2, v3, v4, v5, v6], ⟨e0, e1, e2, e3, e4, e5, e6, _⟩ =>
        simp only [hbtTab, List.map_cons, List.map_nil, List.zip_cons_cons, List.zip_nil_left, putAll, List.setIfInBounds_toArray, List.set_cons_zero, List.set_cons_succ, List.drop_succ_cons, List.drop_zero]
        simp only at e0 e1 e2 e3 e4 e5 e6
        rw [e0, e1, e2, e3, e4, e5, e6]
        clear e0 e1 e2 e3 e4 e5 e6 v0 v1 v2 v3 v4 v5 v6
        have hb4 := hv4.out.ext hR
        have hb5 := hv5.out.ext hR
        obtain ⟨_, _, f40, f41⟩ := hb4.cells
        obtain ⟨_, _, f50, f51⟩ := hb5.cells
        obtain ⟨y0, y1, _, _⟩ := ((hb4.set a1 a2).other h45 (Vu c1) (Vu c2)).cells
        obtain ⟨v0, v1, _, _⟩ := ((hb5.other (fun e => h45 e.symm) (Vu a1) (Vu a2)).set c1 c2).cells
        have x0 := x0.out.trans hR
        have hE := Lib.hid ((((x0.setCell hl4 (p := ⟨p4, 0, none⟩) (Vu a1)).setCell (p := ⟨p4, 1, none⟩) hl4 (Vu a2)).setCell (p := ⟨p5, 0, none⟩) hl5 (Vu c1)).setCell (p := ⟨p5, 1, none⟩) hl5 (Vu c2))
        have hz := Lib.hid (And.intro y0 (And.intro y1 (And.intro v0 v1)))
        clear y0 y1 v0 v1 hb4 hb5 x0 hj1 hj2
        go_wp2
        obtain ⟨y0, y1, v0, v1⟩ := hz.out
        exact bodyPost_ret (v := .tuple #[idv a1 a2, idv c1 c2, .nilIface]) (by simp [results, Try.results17, go_sem, y0, y1, v0, v1]) rfl ⟨rfl, hE.out⟩
    · refine softR_val 29 _ (by kernel_rfl) rfl rfl ?_
      intro a W hx hout hdep
      have ev2 : a.tmps[2]?.getD undef = .pointer (some ⟨pl, 0, none⟩) := by rw [← Array.getD_eq_getD_getElem?]; exact hout 2 (by show 2 ∉ [29, 30, 31, 32, 33, 34, 35]; decide)
      have q0 := hx.keep b0
      have q1 := hx.keep b1
      have q2 := hx.keep b2
      have q3 := hx.keep b3
      have q4 := hx.keep b4
      have q5 := hx.keep b5
      have q6 := hx.keep b6
      have q7 := hx.keep b7
      have q8 := hx.keep b8
      refine ⟨rfl, lsv y, W, ?_, rfl, Ext.refl _⟩
      simp [ev2, q0, q1, q2, q3, q4, q5, q6, q7, q8, execOp, go_sem]
    · refine softR_val 30 _ (by kernel_rfl) rfl rfl ?_
      intro a W hx hout hdep
      have ev7 : a.tmps[7]?.getD undef = Vi p := by rw [← Array.getD_eq_getD_getElem?]; exact hout 7 (by show 7 ∉ [29, 30, 31, 32, 33, 34, 35]; decide)
      refine ⟨rfl, Vi p, W, ?_, rfl, Ext.refl _⟩
      simp [ev7, execOp, go_sem]
    · refine softR_call 31 _ (by kernel_rfl) rfl rfl ?_
      intro a W hx hout hdep
      have ev29 : a.tmps[29]?.getD undef = lsv y := by rw [← Array.getD_eq_getD_getElem?]; exact (hdep ⟨0, .data⟩ (by simp) rfl 29 _ rfl).1
      have ev30 : a.tmps[30]?.getD undef = Vi p := by rw [← Array.getD_eq_getD_getElem?]; exact (hdep ⟨1, .data⟩ (by simp) rfl 30 _ rfl).1
      refine ⟨rfl, 45, #[lsv y, Vi p], ?_, ?_⟩
      · simp [ev29, ev30, execOp, go_sem]
      · exact (hj1.out W hx).mono fun e W1 h => ⟨_, h.1, rfl, h.2⟩
    · refine softR_val 32 _ (by kernel_rfl) rfl rfl ?_
      intro a W hx hout hdep
      have ev2 : a.tmps[2]?.getD undef = .pointer (some ⟨pl, 0, none⟩) := by rw [← Array.getD_eq_getD_getElem?]; exact hout 2 (by show 2 ∉ [29, 30, 31, 32, 33, 34, 35]; decide)
      have q0 := hx.keep b0
      have q1 := hx.keep b1
      have q2 := hx.keep b2
      have q3 := hx.keep b3
      have q4 := hx.keep b4
      have q5 := hx.keep b5
      have q6 := hx.keep b6
      have q7 := hx.keep b7
      have q8 := hx.keep b8
      refine ⟨rfl, lsv y, W, ?_, rfl, Ext.refl _⟩
      simp [ev2, q0, q1, q2, q3, q4, q5, q6, q7, q8, execOp, go_sem]
    · refine softR_val 33 _ (by kernel_rfl) rfl rfl ?_
      intro a W hx hout hdep
      have ev7 : a.tmps[7]?.getD undef = Vi p := by rw [← Array.getD_eq_getD_getElem?]; exact hout 7 (by show 7 ∉ [29, 30, 31, 32, 33, 34, 35]; decide)
      refine ⟨rfl, Vi p, W, ?_, rfl, Ext.refl _⟩
      simp [ev7, execOp, go_sem]
    · refine softR_val 34 _ (by kernel_rfl) rfl rfl ?_
      intro a W hx hout hdep
      have ev33 : a.tmps[33]?.getD undef = Vi p := by rw [← Array.getD_eq_getD_getElem?]; exact (hdep ⟨4, .data⟩ (by simp) rfl 33 _ rfl).1
      have hw5 : IntKind.i64.wrap ((p : Int) + 1) = (p : Int) + 1 := IntWalk.i64_in _ (by omega)
      refine ⟨rfl, Vi ((p : Int) + 1), W, ?_, rfl, Ext.refl _⟩
      simp [ev33, hw5, execOp, go_sem]
    · refine softR_call 35 _ (by kernel_rfl) rfl rfl ?_
      intro a W hx hout hdep
      have ev32 : a.tmps[32]?.getD undef = lsv y := by rw [← Array.getD_eq_getD_getElem?]; exact (hdep ⟨3, .data⟩ (by simp) rfl 32 _ rfl).1
      have ev34 : a.tmps[34]?.getD undef = Vi ((p : Int) + 1) := by rw [← Array.getD_eq_getD_getElem?]; exact (hdep ⟨5, .data⟩ (by simp) rfl 34 _ rfl).1
      refine ⟨rfl, 45, #[lsv y, Vi ((p : Int) + 1)], ?_, ?_⟩
      · simp [ev32, ev34, execOp, go_sem]
      · exact (hj2.out W hx).mono fun e W1 h => ⟨_, h.1, rfl, h.2⟩
set_option maxRecDepth 100000 in
set_option maxHeartbeats 16000000 in
theorem LC.shownNo {F : Nat → Prop} {W : World} {y : Lv} {L : List It} {G : List I2} {t : HT} {ad : I2 → Nat} (h : LC F W y L G t ad) (hl : L.length ≤ 1000) (a m : Int) (ha : -9223372036854775808 ≤ a ∧ a ≤ 9223372036854775807) (hm : -9223372036854775808 ≤ m ∧ m ≤ 9223372036854775807)
    (hno : a < 0 ∨ m < 0 ∨ ((shownE (entL L G)).length : Int) < a ∨ ((shownE (entL L G)).length : Int) - a < m) :
    Calls Try.prog 19 #[lsv y, Vi a, Vi m] W fun e w' => ∃ A c, e = .returned (.tuple #[.slice A 0 c, errv 3]) ∧ Ext W w' := by
  obtain ⟨s, hs⟩ : ∃ s, (shownE (entL L G)).length = s := ⟨_, rfl⟩
  have hsh := Lib.hid (fun W' (hx : Ext W W') => (h.ext hx).shown hl hs)
  have hsn : s ≤ 1000 := by rw [← hs]; have := shown_len (entL L G) 0; rw [h.len] at this; exact Nat.le_trans this hl
  rw [hs] at hno
  clear h hs
  have x0 : Ext W (W.alloc (lbox y)) := (Ext.refl _).alloc _
  go_enter Try.func19, Try.ntmps19
  go_wp2_with fail
  refine (hsh.out _ x0).mono ?_
  rintro e w1 ⟨rfl, x1⟩
  replace x0 := Lib.hid (x0.trans x1)
  clear x1 hsh
  by_cases h1 : a < 0
  · have d1 : decide (a < 0) = true := decide_eq_true h1
    clear hno
    go_wp2
    exact bodyPost_ret (v := .tuple #[.slice none 0 0, errv 3]) (by simp [results, Try.results19, go_sem, errv]) rfl ⟨none, 0, rfl, x0.out⟩
  · have d1 : decide (a < 0) = false := decide_eq_false h1
    by_cases h2 : m < 0
    · have d2 : decide (m < 0) = true := decide_eq_true h2
      clear hno
      go_wp2
      exact bodyPost_ret (v := .tuple #[.slice none 0 0, errv 3]) (by simp [results, Try.results19, go_sem, errv]) rfl ⟨none, 0, rfl, x0.out⟩
    · have d2 : decide (m < 0) = false := decide_eq_false h2
      by_cases h3 : (s : Int) < a
      · have d3 : decide ((s : Int) < a) = true := decide_eq_true h3
        clear hno
        go_wp2
        exact bodyPost_ret (v := .tuple #[.slice none 0 0, errv 3]) (by simp [results, Try.results19, go_sem, errv]) rfl ⟨none, 0, rfl, x0.out⟩
      · have d3 : decide ((s : Int) < a) = false := decide_eq_false h3
        have d4 : decide ((s : Int) - a < m) = true := decide_eq_true (by omega)
        have d4' : wrap64 ((s : Int) - a) = (s : Int) - a := w64_id (by omega) (by omega)
        clear hno
        go_wp2
        exact bodyPost_ret (v := .tuple #[.slice none 0 0, errv 3]) (by simp [results, Try.results19, go_sem, errv]) rfl ⟨none, 0, rfl, x0.out⟩

theorem roomO_run (c : Int) (W : World) (h0 : 0 ≤ c) (h1 : c ≤ 100000) : (Instr.makeSlice 36 (.int .i64 0) (.int .i64 c)).run Try.prog W = .ok (.slice (some ⟨W.heap.size, 0, none⟩) 0 c.toNat) (W.alloc (.cells (roomC (.agg #[.int .u32 0, .int .u32 0]) (c.toNat * 2)) 41)) := by
  obtain ⟨i, hi, hz0, hz1, hz2⟩ := info_parts infoO
  exact run_room Try.underlying36 hi hz0 hz1 hz2 c W h0 (by omega) (by omega)
theorem OwnO.room {w W : World} (c : Nat) (hc : c ≤ 100000) (hx : Ext w W) : OwnO w (W.alloc (.cells (roomC (.agg #[.int .u32 0, .int .u32 0]) (c * 2)) 41)) (.slice (some ⟨W.heap.size, 0, none⟩) 0 c) [] :=
  ⟨by simp [flat], .inr ⟨W.heap.size, c, _, rfl, hx.size, heap_alloc_new W _, Nat.zero_le _, by unfold maxLen; omega, roomC_size _ _, by simp [flat]⟩⟩

set_option maxRecDepth 100000 in
set_option maxHeartbeats 16000000 in
theorem LC.shownIs {F : Nat → Prop} {W : World} {y : Lv} {L : List It} {G : List I2} {t : HT} {ad : I2 → Nat} (h : LC F W y L G t ad) (hl : L.length ≤ 1000) (sa m : Nat) (ham : sa + m ≤ (shownE (entL L G)).length) :
    Calls Try.prog 19 #[lsv y, Vi (sa : Int), Vi (m : Int)] W fun e w' => ∃ A c, e = .returned (.tuple #[.slice A (idsE (entL L G) sa m).length c, .nilIface]) ∧ OdS w' A (idsE (entL L G) sa m) ∧ Ext W w' := by
  obtain ⟨s, hs⟩ : ∃ s, (shownE (entL L G)).length = s := ⟨_, rfl⟩
  have hsh := Lib.hid (fun W' (hx : Ext W W') => (h.ext hx).shown hl hs)
  have hsn : s ≤ 1000 := by rw [← hs]; have := shown_len (entL L G) 0; rw [h.len] at this; exact Nat.le_trans this hl
  rw [hs] at ham
  replace hs := Lib.hid hs
  have hlen := Lib.hid h.len
  have hkn := Lib.hid h.nd.kn
  have hj1 := Lib.hid (fun W' (hx : Ext W W') (q p : Nat) (hq : (shownE (entL L G))[q]? = some p) => (h.ext hx).shownAt hl hq)
  have hj2 := Lib.hid (fun W' (hx : Ext W W') (p : Nat) (hp : p ≤ L.length) => idAtE_ls (h.ext hx) hl hp)
  clear h
  have x0 : Ext W (W.alloc (lbox y)) := (Ext.refl _).alloc _
  have bl := BxL.new W y
  have d1 : decide ((sa : Int) < 0) = false := decide_eq_false (by omega)
  have d2 : decide ((m : Int) < 0) = false := decide_eq_false (by omega)
  have d3 : decide ((s : Int) < (sa : Int)) = false := decide_eq_false (by omega)
  have d3' : decide (s < sa) = false := decide_eq_false (by omega)
  have d4 : decide ((s : Int) - (sa : Int) < (m : Int)) = false := decide_eq_false (by omega)
  have hm9 : (m : Int) ≤ 1000 := by omega
  have ha9 : (sa : Int) ≤ 1000 := by omega
  go_enter Try.func19, Try.ntmps19
  go_wp2_with fail
  refine (hsh.out _ x0).mono ?_
  rintro e w1 ⟨rfl, x1⟩
  replace bl := Lib.hid (bl.ext x1)
  replace x0 := Lib.hid (x0.trans x1)
  obtain ⟨pl, h3⟩ : ∃ p, W.heap.size = p := ⟨_, rfl⟩
  rw [h3] at bl ⊢
  clear x1 hsh h3
  have hroom := roomO_run (m : Int) w1 (by omega) (by omega)
  rw [Int.toNat_natCast] at hroom
  have ho := Lib.hid (OwnO.room (w := w1) m (by omega) (Ext.refl w1))
  have hxa := Lib.hid ((Ext.refl w1).alloc (.cells (roomC (.agg #[.int .u32 0, .int .u32 0]) (m * 2)) 41))
  go_wp2
  clear hroom
  go_loopw [9, 36] (fun v i W => ∃ (j : Nat), j ≤ m ∧ i = Vi (j : Int) ∧ Hid (OwnO w1 W v (idsE (entL L G) sa j)) ∧ Hid (Ext w1 W)) (fun _ i _ => m - (intOf i).toNat)
  case atStart => exact ⟨0, Nat.zero_le _, rfl, Lib.hid (by unfold idsE; rw [List.take_zero]; exact ho.out), hxa⟩
  case round =>
    clear ho hxa
    obtain ⟨j, hj, rfl, ho, hx1⟩ := hrel
    by_cases hlt : j < m
    · obtain ⟨p, hp⟩ : ∃ p, (shownE (entL L G))[sa + j]? = some p := ⟨_, List.getElem?_eq_getElem (by rw [hs.out]; omega)⟩
      have hpl := shownE_lt hp
      obtain ⟨x, hx⟩ : ∃ x, (entL L G)[p]? = some x := ⟨_, List.getElem?_eq_getElem hpl⟩
      rw [hlen.out] at hpl
      have hst := Lib.hid (idsE_step hp hx)
      have hc1 := Lib.hid (fun W' (hw : Ext wr W') => hj1.out W' (x0.out.trans (hx1.out.trans hw)) _ _ hp)
      have hc2 := Lib.hid (fun W' (hw : Ext wr W') => hj2.out W' (x0.out.trans (hx1.out.trans hw)) p (by omega))
      rw [idAt_some hx] at hc2
      obtain ⟨c, k, ch, g⟩ := x
      simp only at hc2 hst
      rw [show ((sa + j : Nat) : Int) = (sa : Int) + (j : Int) by omega] at hc1
      have hjl := idsE_len (entL L G) sa j
      have hjl2 : (idsE (entL L G) sa j).length ≤ 1000 := by omega
      have hltz : (j : Int) < (m : Int) := by omega
      replace bl := bl.out.ext hx1.out
      obtain ⟨b0, b1, b2, b3, b4, b5, b6, b7, b8⟩ := bl.cells
      obtain ⟨no, hno⟩ : ∃ no, (idsE (entL L G) sa j).length = no := ⟨_, rfl⟩
      obtain ⟨Ao, co, rfl, _, _⟩ := ho.out.open
      have hjb := Lib.hid hjl2
      rw [hno] at ho hjl2 ⊢
      clear hno
      clear hp hx bl hjl d1 d2 d3 d3' d4
      go_wp2_with fail
      refine wp_soft_frame Ext 9 (hshTab y pl no co p Ao sa j c k) (by kernel_rfl) (by kernel_rfl) (fun _ _ _ => Ext.trans) ((Ext.refl _).drew) rfl (by show List.Nodup [39, 40, 41, 42, 43, 44, 45, 46, 47]; decide) (by show ∀ d ∈ [39, 40, 41, 42, 43, 44, 45, 46, 47], d < 51; decide) (hshTab_mono y pl no co p Ao sa j c k Ext (fun _ _ h => h)) ?_ ⟨?_, ?_, ?_, ?_, ?_, ?_, ?_, ?_, ?_, trivial⟩
      · intro W vs hT hR
        match vs, hT with
        | [v0, v1, v2, v3, v4, v5, v6, v7, v8], ⟨e0, e1, e2, e3, e4, e5, e6, e7, e8, _⟩ =>
          simp only [hshTab, List.map_cons, List.map_nil, List.zip_cons_cons, List.zip_nil_left, putAll, List.setIfInBounds_toArray, List.set_cons_zero, List.set_cons_succ, List.drop_succ_cons, List.drop_zero]
          simp only at e0 e1 e2 e3 e4 e5 e6 e7
          obtain ⟨q8, e8, h8⟩ := e8
          rw [e0, e1, e2, e3, e4, e5, e6, e7, e8]
          clear e0 e1 e2 e3 e4 e5 e6 e7 e8 v0 v1 v2 v3 v4 v5 v6 v7 v8
          refine wpList_append_O (w0 := w1) rfl (.tmp 39) (.tmp 47) rfl _ (idsE (entL L G) sa j) rfl (ho.out.ext hR) (hx1.out.trans hR) _ 1 1 [(c, k)] rfl rfl h8 (by simp only [List.length_cons, List.length_nil]; have := hjb.out; omega) ?_
          intro v3 w3 o3 x3 gg3 bb3
          clear hc1 hc2 b0 b1 b2 b3 b4 b5 b6 b7 b8 gg3 bb3 h8
          replace o3 := Lib.hid o3
          replace x3 := Lib.hid x3
          go_wp2
          go_roundw
          case rel => exact ⟨j + 1, by omega, by go_num, Lib.hid (by rw [hst.out]; exact o3.out), x3⟩
          case measure => simp [intOf]; omega
      · refine softR_val 39 _ (by kernel_rfl) rfl rfl ?_
        intro a W hx hout hdep
        have ev9 : a.tmps[9]?.getD undef = .slice Ao no co := by rw [← Array.getD_eq_getD_getElem?]; exact hout 9 (by show 9 ∉ [39, 40, 41, 42, 43, 44, 45, 46, 47]; decide)
        refine ⟨rfl, .slice Ao no co, W, ?_, rfl, Ext.refl _⟩
        simp [ev9, execOp, go_sem]
      · refine softR_val 40 _ (by kernel_rfl) rfl rfl ?_
        intro a W hx hout hdep
        have ev3 : a.tmps[3]?.getD undef = .pointer (some ⟨pl, 0, none⟩) := by rw [← Array.getD_eq_getD_getElem?]; exact hout 3 (by show 3 ∉ [39, 40, 41, 42, 43, 44, 45, 46, 47]; decide)
        have q0 := hx.keep b0
        have q1 := hx.keep b1
        have q2 := hx.keep b2
        have q3 := hx.keep b3
        have q4 := hx.keep b4
        have q5 := hx.keep b5
        have q6 := hx.keep b6
        have q7 := hx.keep b7
        have q8 := hx.keep b8
        refine ⟨rfl, lsv y, W, ?_, rfl, Ext.refl _⟩
        simp [ev3, q0, q1, q2, q3, q4, q5, q6, q7, q8, execOp, go_sem]
      · refine softR_val 41 _ (by kernel_rfl) rfl rfl ?_
        intro a W hx hout hdep
        have ev3 : a.tmps[3]?.getD undef = .pointer (some ⟨pl, 0, none⟩) := by rw [← Array.getD_eq_getD_getElem?]; exact hout 3 (by show 3 ∉ [39, 40, 41, 42, 43, 44, 45, 46, 47]; decide)
        have q0 := hx.keep b0
        have q1 := hx.keep b1
        have q2 := hx.keep b2
        have q3 := hx.keep b3
        have q4 := hx.keep b4
        have q5 := hx.keep b5
        have q6 := hx.keep b6
        have q7 := hx.keep b7
        have q8 := hx.keep b8
        refine ⟨rfl, lsv y, W, ?_, rfl, Ext.refl _⟩
        simp [ev3, q0, q1, q2, q3, q4, q5, q6, q7, q8, execOp, go_sem]
      · refine softR_val 42 _ (by kernel_rfl) rfl rfl ?_
        intro a W hx hout hdep
        have ev1 : a.tmps[1]?.getD undef = Vi sa := by rw [← Array.getD_eq_getD_getElem?]; exact hout 1 (by show 1 ∉ [39, 40, 41, 42, 43, 44, 45, 46, 47]; decide)
        refine ⟨rfl, Vi sa, W, ?_, rfl, Ext.refl _⟩
        simp [ev1, execOp, go_sem]
      · refine softR_val 43 _ (by kernel_rfl) rfl rfl ?_
        intro a W hx hout hdep
        have ev10 : a.tmps[10]?.getD undef = Vi j := by rw [← Array.getD_eq_getD_getElem?]; exact hout 10 (by show 10 ∉ [39, 40, 41, 42, 43, 44, 45, 46, 47]; decide)
        refine ⟨rfl, Vi j, W, ?_, rfl, Ext.refl _⟩
        simp [ev10, execOp, go_sem]
      · refine softR_val 44 _ (by kernel_rfl) rfl rfl ?_
        intro a W hx hout hdep
        have ev42 : a.tmps[42]?.getD undef = Vi sa := by rw [← Array.getD_eq_getD_getElem?]; exact (hdep ⟨3, .data⟩ (by simp) rfl 42 _ rfl).1
        have ev43 : a.tmps[43]?.getD undef = Vi j := by rw [← Array.getD_eq_getD_getElem?]; exact (hdep ⟨4, .data⟩ (by simp) rfl 43 _ rfl).1
        have hw5 : IntKind.i64.wrap ((sa : Int) + (j : Int)) = ((sa : Int) + (j : Int)) := IntWalk.i64_in _ (by omega)
        refine ⟨rfl, Vi ((sa : Int) + (j : Int)), W, ?_, rfl, Ext.refl _⟩
        simp [ev42, ev43, hw5, execOp, go_sem]
      · refine softR_call 45 _ (by kernel_rfl) rfl rfl ?_
        intro a W hx hout hdep
        have ev41 : a.tmps[41]?.getD undef = lsv y := by rw [← Array.getD_eq_getD_getElem?]; exact (hdep ⟨2, .data⟩ (by simp) rfl 41 _ rfl).1
        have ev44 : a.tmps[44]?.getD undef = Vi ((sa : Int) + (j : Int)) := by rw [← Array.getD_eq_getD_getElem?]; exact (hdep ⟨5, .data⟩ (by simp) rfl 44 _ rfl).1
        refine ⟨rfl, 46, #[lsv y, Vi ((sa : Int) + (j : Int))], ?_, ?_⟩
        · simp [ev41, ev44, execOp, go_sem]
        · exact (hc1.out W hx).mono fun e W1 h => ⟨_, h.1, rfl, h.2⟩
      · refine softR_call 46 _ (by kernel_rfl) rfl rfl ?_
        intro a W hx hout hdep
        have ev40 : a.tmps[40]?.getD undef = lsv y := by rw [← Array.getD_eq_getD_getElem?]; exact (hdep ⟨1, .data⟩ (by simp) rfl 40 _ rfl).1
        have ev45 : a.tmps[45]?.getD undef = Vi p := by rw [← Array.getD_eq_getD_getElem?]; exact (hdep ⟨6, .data⟩ (by simp) rfl 45 _ rfl).1
        refine ⟨rfl, 45, #[lsv y, Vi p], ?_, ?_⟩
        · simp [ev40, ev45, execOp, go_sem]
        · exact (hc2.out W hx).mono fun e W1 h => ⟨_, h.1, rfl, h.2⟩
      · refine softR_val 47 _ (by kernel_rfl) rfl rfl ?_
        intro a W hx hout hdep
        have ev46 : a.tmps[46]?.getD undef = idv c k := by rw [← Array.getD_eq_getD_getElem?]; exact (hdep ⟨7, .data⟩ (by simp) rfl 46 _ rfl).1
        refine ⟨rfl, .slice (some ⟨W.heap.size, 0, none⟩) 1 1, W.alloc (.cells #[.int .u32 c, .int .u32 k] 41), ?_, ⟨_, rfl, OdS.newAt (c, k) rfl⟩, (Ext.refl W).alloc _⟩
        simp [ev46, execOp, go_sem]
    · have hz := Lib.hid (show j = m by omega)
      rw [hz.out] at ho
      obtain ⟨Ao, co, rfl, _, hod⟩ := ho.out.open
      have hE := Lib.hid (x0.out.trans hx1.out)
      replace hod := Lib.hid hod
      clear ho
      go_wp2
      exact bodyPost_ret (v := .tuple #[.slice Ao (idsE (entL L G) sa m).length co, .nilIface]) (by simp [results, Try.results19, go_sem]) rfl ⟨_, _, rfl, hod.out, hE.out⟩

end Go.Proofs.Ytmpomammieenjaa

namespace Go.Proofs.Ytmpomammieenjaa
open Go.ChangeShapes Go.WideShapes Go.ChangeAt Go.RowKit Go.Sort
set_option linter.unusedVariables false
set_option linter.unusedSimpArgs false
attribute [local go_sem] World.cell?_alloc_some

abbrev Vc (x : Int) : Value := .int .i32 x
def OwnRu (w W : World) (v : Value) (l : List Int) : Prop := OwnG 21 1 w W v l.length (l.map Vc)
theorem OwnRu.nil (w W : World) : OwnRu w W (.slice none 0 0) [] := OwnG.nil _ _ _ _
theorem OwnRu.ext {w W W' : World} {v : Value} {l : List Int} (h : OwnRu w W v l) (hx : Ext W W') : OwnRu w W' v l := OwnG.ext h hx
theorem OwnRu.open {w W : World} {v : Value} {l : List Int} (h : OwnRu w W v l) : ∃ A c, v = .slice A l.length c ∧ l.length ≤ c ∧ Row W A (l.map Vc) := by
  obtain ⟨A, c, rfl, hc⟩ := OwnG.form h
  exact ⟨A, c, rfl, hc, OwnG.row h⟩
def charsE (l : List En) : List Int := (l.filter fun x => !x.g).map En.ch
theorem chars_len (l : List En) : (charsE l).length ≤ l.length := by
  unfold charsE; rw [List.length_map]; exact List.length_filter_le _ _
def textE (l : List En) : ByteArray := runesBytes (charsE l)

end Go.Proofs.Ytmpomammieenjaa
