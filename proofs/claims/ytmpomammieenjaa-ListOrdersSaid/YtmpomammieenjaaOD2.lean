/-
  Several texts of this seat in one file, each in the namespace again; no claim stands here.
-/
import Derived.Test.YtmpomammieenjaaOV
import Derived.Test.YtmpomammieenjaaOC2
namespace Go.Proofs.Ytmpomammieenjaa
open Go.ChangeShapes Go.WideShapes Go.ChangeAt Go.RowKit Go.Sort
set_option linter.unusedVariables false
set_option linter.unusedSimpArgs false
attribute [local go_sem] World.cell?_alloc_some

def nxB (w : World) (v v' : Value) : Prop := v'.ownBlock = v.ownBlock ∨ ∃ g, v'.ownBlock = some g ∧ w.heap.size ≤ g
theorem nxB.refl (w : World) (v : Value) : nxB w v v := .inl rfl
theorem nxB.trans {w w1 : World} {v v1 v2 : Value} (h : nxB w v v1) (k : nxB w1 v1 v2) (hs : w.heap.size ≤ w1.heap.size) : nxB w v v2 := by
  rcases k with e | ⟨g, e, hg⟩
  · rcases h with e' | ⟨g, e', hg⟩
    · exact .inl (e.trans e')
    · exact .inr ⟨g, e.trans e', hg⟩
  · exact .inr ⟨g, e, Nat.le_trans hs hg⟩
theorem nxB.of {w w1 : World} {v v' : Value} (h : v'.ownBlock = v.ownBlock ∨ ∃ g, v'.ownBlock = some g ∧ w1.heap.size ≤ g) (hs : w.heap.size ≤ w1.heap.size) : nxB w v v' :=
  h.imp id (fun ⟨g, e, hg⟩ => ⟨g, e, Nat.le_trans hs hg⟩)

def canI (L : List It) (x : It) : Bool := !(decide (x.c = 0) || hasI L (x.c, x.k)) && (decide (x.lc = 0) || hasI L (x.lc, x.lk)) && (decide (x.rc = 0) || hasI L (x.rc, x.rk)) && okB x.ch
theorem canI_is (L : List It) (x : It) : canI L x = (knownX L x && okB x.ch) := by
  unfold canI knownX iid ilf irt
  by_cases h : x.c = 0 <;> cases hasI L (x.c, x.k) <;> simp [h]

end Go.Proofs.Ytmpomammieenjaa

namespace Go.Proofs.Ytmpomammieenjaa
open Go.ChangeShapes Go.WideShapes Go.ChangeAt Go.RowKit Go.Sort
set_option linter.unusedVariables false
set_option linter.unusedSimpArgs false
set_option linter.unusedSimpArgs false
attribute [local go_sem] World.cell?_alloc_some

def updA (ad : I2 → Nat) (a : I2) (q : Nat) (b : I2) : Nat := if b = a then q else ad b
theorem updA_same (ad : I2 → Nat) (a : I2) (q : Nat) : updA ad a q a = q := by unfold updA; rw [if_pos rfl]
theorem updA_other {ad : I2 → Nat} {a b : I2} {q : Nat} (h : b ≠ a) : updA ad a q b = ad b := by unfold updA; rw [if_neg h]
theorem NdL.snoc {F G : Nat → Prop} {W : World} {ad : I2 → Nat} {L : List It} (h : NdL F W ad L) {x : It} (hx : knownX L x = true) {q : Nat} (hq : ¬ F q) (hG : ∀ b, F b → G b) (hGq : G q) {far : I2}
    (hc : NC W q x (vAd ad (hgP L x).on) (hgP L x).right (((pth L (hgP L x).on).length + 1 : Nat) : Int) (vAd ad far)) (hfar : RtL L far ∧ ∃ r, pth L (hgP L x).on = pth L far ++ r) : NdL G W (updA ad (iid x) q) (L ++ [x]) := by
  have hno := (knownX_spec hx).2.1
  have hk : knownI (L ++ [x]) = true := by rw [known_snoc, h.kn, hx]; rfl
  have hne : ∀ a, hasI L a = true → a ≠ iid x := fun a ha e => by rw [e, hno] at ha; cases ha
  have hrt : ∀ a, RtL L a → RtL (L ++ [x]) a ∧ pth (L ++ [x]) a = pth L a ∧ vAd (updA ad (iid x) q) a = vAd ad a := by
    rintro a (rfl | ha)
    · exact ⟨.inl rfl, by rw [pth_none (has_root hk 0), pth_none (has_root h.kn 0)], rfl⟩
    · refine ⟨.inr (by rw [has_snoc, ha]; rfl), pth_old ha, ?_⟩
      unfold vAd
      rw [updA_other (hne a ha)]
  have hxc : pth (L ++ [x]) (iid x) = pth L (hgP L x).on ++ [((hgP L x).right, iid x)] := by rw [pth_new hno, newP_eq]
  refine ⟨hk, fun z hz => ?_, fun a b ha hb e => ?_⟩
  · rcases List.mem_append.1 hz with hz | hz
    · have hzh := has_iffI.2 ⟨z, hz, rfl⟩
      obtain ⟨h0, on, far', r, w, h1, h2, h3, h4, h5, h6⟩ := h.at' z hz
      rw [updA_other (hne _ hzh), (hrt _ (.inr hzh)).2.1]
      refine ⟨hG _ h0, on, far', r, w, (hrt _ h1).1, (hrt _ h2).1, by rw [(hrt _ h1).2.1]; exact h3, by rw [(hrt _ h2).2.1]; exact h4, h5, ?_⟩
      rw [(hrt _ h1).2.2, (hrt _ h2).2.2]
      exact h6
    · rw [List.mem_singleton.1 hz]
      have hon := hg_rt hx
      obtain ⟨hf1, r, hf2⟩ := hfar
      rw [updA_same]
      refine ⟨hGq, (hgP L x).on, far, (hgP L x).right, r ++ [((hgP L x).right, iid x)], (hrt _ hon).1, (hrt _ hf1).1, by rw [(hrt _ hon).2.1]; exact hxc, by rw [(hrt _ hf1).2.1, hxc, hf2, List.append_assoc], by simp, ?_⟩
      rw [(hrt _ hon).2.2, (hrt _ hf1).2.2, hxc, List.length_append, List.length_singleton]
      exact hc
  · rw [has_snoc] at ha hb
    have hfa : ∀ a, hasI L a = true → updA ad (iid x) q a ≠ q := fun a ha e => by
      rw [updA_other (hne a ha)] at e
      obtain ⟨z, hz, rfl⟩ := has_iffI.1 ha
      exact hq (e ▸ (h.at' z hz).1)
    by_cases ea : iid x = a
    · by_cases eb : iid x = b
      · rw [← ea, ← eb]
      · have hb' : hasI L b = true := by simpa [eb] using hb
        rw [← ea, updA_same] at e
        exact absurd e.symm (hfa b hb')
    · have ha' : hasI L a = true := by simpa [ea] using ha
      by_cases eb : iid x = b
      · rw [← eb, updA_same] at e
        exact absurd e (hfa a ha')
      · have hb' : hasI L b = true := by simpa [eb] using hb
        rw [updA_other (hne a ha'), updA_other (hne b hb')] at e
        exact h.inj a b ha' hb' e

set_option maxRecDepth 100000 in
set_option maxHeartbeats 8000000 in
theorem LC.placeOf {F : Nat → Prop} {W : World} {y : Lv} {L : List It} {G : List I2} {t : HT} {ad : I2 → Nat} (h : LC F W y L G t ad) (hl : L.length ≤ 900) (x : It) (hx : knownX L x = true) (nn : Nat) (d : Int) (vf : Value) (hc : NC W nn x (vAd ad (hgP L x).on) (hgP L x).right d vf) :
    Calls Try.prog 35 #[lsv y, Vp nn] W (PlS L x W) := by
  have x0 : Ext W (W.alloc (lbox y)) := (Ext.refl W).alloc _
  have bl := BxL.new W y
  have c8 := x0.keep hc.cells.c8
  obtain ⟨b0, b1, b2, b3, b4, b5, b6, b7, b8⟩ := bl.cells
  obtain ⟨rt, hrt⟩ : ∃ rt, (hgP L x).right = rt := ⟨_, rfl⟩
  rw [hrt] at c8
  have hcall : ∀ w1, Ext W w1 → Calls Try.prog (if rt then 59 else 60) #[lsv y, Vp nn] w1 (PlS L x w1) := by
    intro w1 hE
    cases rt with
    | true => exact (h.ext hE).rightPlace hl x hx hrt nn d vf _ (hc.ext hE)
    | false =>
      refine (h.ext hE).leftPlace hl x hx hrt nn d vf _ (hc.ext hE) ?_
      rcases hg_rt hx with e | e
      · obtain ⟨_, _, hlf, hri⟩ := knownX_spec hx
        by_cases hrc : x.rc = 0
        · rw [hgP_st hrc] at hrt
          split at hrt <;> cases hrt
        · by_cases hlc : x.lc = 0
          · rw [hgP_rt hrc hlc]; exact hri.resolve_left hrc
          · rw [hgP_bo hrc hlc] at hrt ⊢
            split at hrt
            · rename_i hb
              rw [if_pos hb]
              exact hri.resolve_left hrc
            · cases hrt
      · exact e
  replace hcall := Lib.hid hcall
  clear h hc hx hrt bl
  have bl2 : True := trivial
  go_enter Try.func35, Try.ntmps35
  cases rt with
  | true =>
    go_wp2_with fail
    refine (hcall.out _ x0).mono ?_
    rintro e w1 ⟨p, rfl, hp, x1⟩
    have hE := Lib.hid (x0.trans x1)
    replace hp := Lib.hid hp
    clear hcall x0 x1 b0 b1 b2 b3 b4 b5 b6 b7 b8 c8
    go_wp2
    go_ret
    exact ⟨p, rfl, hp.out, hE.out⟩
  | false =>
    go_wp2_with fail
    refine (hcall.out _ x0).mono ?_
    rintro e w1 ⟨p, rfl, hp, x1⟩
    have hE := Lib.hid (x0.trans x1)
    replace hp := Lib.hid hp
    clear hcall x0 x1 b0 b1 b2 b3 b4 b5 b6 b7 b8 c8
    go_wp2
    go_ret
    exact ⟨p, rfl, hp.out, hE.out⟩

set_option maxRecDepth 100000 in
set_option maxHeartbeats 16000000 in
theorem LC.addNo0 {F : Nat → Prop} {W : World} {y : Lv} {L : List It} {G : List I2} {t : HT} {ad : I2 → Nat} (h : LC F W y L G t ad) (x : It) (gone : Bool) (e0 : decide (x.c = 0) = true) :
    Calls Try.prog 11 #[lsv y, itv x, .bool gone] W fun e w' => ∃ z : Lv, e = .returned (.tuple #[lsv z, errv 1]) ∧ Ext W w' := by
  have x0 : Ext W (((W.alloc (lbox y)).alloc (icells x)).alloc (lbox zLv)) := (((Ext.refl W).alloc _).alloc _).alloc _
  have bl := ((BxL.new W y).ext ((Ext.refl _).alloc (icells x))).ext ((Ext.refl _).alloc (lbox zLv))
  have bi := (BoxI.newL (W.alloc (lbox y)) x).ext ((Ext.refl _).alloc (lbox zLv))
  have bz := BxL.new ((W.alloc (lbox y)).alloc (icells x)) zLv
  rw [show (W.alloc (lbox y)).heap.size = W.heap.size + 1 by simp] at bi
  rw [show ((W.alloc (lbox y)).alloc (icells x)).heap.size = W.heap.size + 1 + 1 by simp] at bz
  have hpl : W.heap.size ≤ W.heap.size + 1 + 1 := by omega
  have q0 := Lib.hid (fun (w : World) => none_lit (k := x.k) e0 w)
  clear h e0
  obtain ⟨pz, hpz⟩ : ∃ pz, W.heap.size + 1 + 1 = pz := ⟨_, rfl⟩
  obtain ⟨pi, hpi⟩ : ∃ pi, W.heap.size + 1 = pi := ⟨_, rfl⟩
  rw [hpz] at bz hpl
  rw [hpi] at bi
  obtain ⟨b0, b1, b2, b3, b4, b5, b6, b7, b8⟩ := bl.cells
  obtain ⟨i0, i1, i2, i3, i4, i5, i6⟩ := bi.cells
  simp only [Nat.zero_add] at i0 i1 i2 i3 i4 i5 i6
  go_enter Try.func11, Try.ntmps11
  rw [← hpi] at i0 i1 i2 i3 i4 i5 i6
  replace bz := Lib.hid bz
  replace x0 := Lib.hid x0
  replace hpz := Lib.hid hpz
  replace hpi := Lib.hid hpi
  clear bl bi
  go_wp2_with fail
  rw [hpz.out, hpi.out]
  rw [hpi.out] at i0 i1 i2 i3 i4 i5 i6
  refine (q0.out _).mono ?_
  rintro e w0 ⟨rfl, x1⟩
  replace bz := Lib.hid (bz.out.ext x1)
  replace x0 := Lib.hid (x0.out.trans x1)
  clear x1 q0
  clear b0 b1 b2 b3 b4 b5 b6 b7 b8 i0 i1 i2 i3 i4 i5 i6
  obtain ⟨_, _, _, _, _, _, _, _, _⟩ := bz.out.cells
  have f0 := bz.out.thaw 0
  have f1 := bz.out.thaw 1
  have f2 := bz.out.thaw 2
  have f3 := bz.out.thaw 3
  have f4 := bz.out.thaw 4
  have f5 := bz.out.thaw 5
  have f6 := bz.out.thaw 6
  have f7 := bz.out.thaw 7
  have f8 := bz.out.thaw 8
  have hz := Lib.hid (bz.out.put zLv).cells
  clear bz
  go_wp2
  obtain ⟨z0, z1, z2, z3, z4, z5, z6, z7, z8⟩ := hz.out
  exact bodyPost_ret (v := .tuple #[lsv zLv, errv 1]) (by simp [results, Try.results11, go_sem, z0, z1, z2, z3, z4, z5, z6, z7, z8, errv]) rfl ⟨zLv, rfl, ((((((((x0.out.setCell hpl _).setCell hpl _).setCell hpl _).setCell hpl _).setCell hpl _).setCell hpl _).setCell hpl _).setCell hpl _).setCell hpl _⟩

set_option maxRecDepth 100000 in
set_option maxHeartbeats 16000000 in
theorem LC.addNo1 {F : Nat → Prop} {W : World} {y : Lv} {L : List It} {G : List I2} {t : HT} {ad : I2 → Nat} (h : LC F W y L G t ad) (x : It) (gone : Bool) (e0 : decide (x.c = 0) = false) (e1 : hasI L (x.c, x.k) = true) :
    Calls Try.prog 11 #[lsv y, itv x, .bool gone] W fun e w' => ∃ z : Lv, e = .returned (.tuple #[lsv z, errv 1]) ∧ Ext W w' := by
  have x0 : Ext W (((W.alloc (lbox y)).alloc (icells x)).alloc (lbox zLv)) := (((Ext.refl W).alloc _).alloc _).alloc _
  have bl := ((BxL.new W y).ext ((Ext.refl _).alloc (icells x))).ext ((Ext.refl _).alloc (lbox zLv))
  have bi := (BoxI.newL (W.alloc (lbox y)) x).ext ((Ext.refl _).alloc (lbox zLv))
  have bz := BxL.new ((W.alloc (lbox y)).alloc (icells x)) zLv
  rw [show (W.alloc (lbox y)).heap.size = W.heap.size + 1 by simp] at bi
  rw [show ((W.alloc (lbox y)).alloc (icells x)).heap.size = W.heap.size + 1 + 1 by simp] at bz
  have hpl : W.heap.size ≤ W.heap.size + 1 + 1 := by omega
  have q0 := Lib.hid (fun (w : World) => none_lit (k := x.k) e0 w)
  have q1 := Lib.hid (fun w (hw : Ext W w) => (h.ext hw).findIn (c := x.c) (k := x.k) e1)
  obtain ⟨pk, hpk⟩ : ∃ pk, ad (x.c, x.k) = pk := ⟨_, rfl⟩
  rw [hpk] at q1
  clear hpk
  clear h e0 e1
  obtain ⟨pz, hpz⟩ : ∃ pz, W.heap.size + 1 + 1 = pz := ⟨_, rfl⟩
  obtain ⟨pi, hpi⟩ : ∃ pi, W.heap.size + 1 = pi := ⟨_, rfl⟩
  rw [hpz] at bz hpl
  rw [hpi] at bi
  obtain ⟨b0, b1, b2, b3, b4, b5, b6, b7, b8⟩ := bl.cells
  obtain ⟨i0, i1, i2, i3, i4, i5, i6⟩ := bi.cells
  simp only [Nat.zero_add] at i0 i1 i2 i3 i4 i5 i6
  go_enter Try.func11, Try.ntmps11
  rw [← hpi] at i0 i1 i2 i3 i4 i5 i6
  replace bz := Lib.hid bz
  replace x0 := Lib.hid x0
  replace hpz := Lib.hid hpz
  replace hpi := Lib.hid hpi
  clear bl bi
  go_wp2_with fail
  rw [hpz.out, hpi.out]
  rw [hpi.out] at i0 i1 i2 i3 i4 i5 i6
  refine (q0.out _).mono ?_
  rintro e w0 ⟨rfl, x1⟩
  replace b0 := x1.keep b0
  replace b1 := x1.keep b1
  replace b2 := x1.keep b2
  replace b3 := x1.keep b3
  replace b4 := x1.keep b4
  replace b5 := x1.keep b5
  replace b6 := x1.keep b6
  replace b7 := x1.keep b7
  replace b8 := x1.keep b8
  replace i0 := x1.keep i0
  replace i1 := x1.keep i1
  replace i2 := x1.keep i2
  replace i3 := x1.keep i3
  replace i4 := x1.keep i4
  replace i5 := x1.keep i5
  replace i6 := x1.keep i6
  replace bz := Lib.hid (bz.out.ext x1)
  replace x0 := Lib.hid (x0.out.trans x1)
  clear x1 q0
  go_wp2_with fail
  refine (q1.out _ x0.out).mono ?_
  rintro e w1 ⟨rfl, x1⟩
  replace bz := Lib.hid (bz.out.ext x1)
  replace x0 := Lib.hid (x0.out.trans x1)
  clear x1 q1
  clear b0 b1 b2 b3 b4 b5 b6 b7 b8 i0 i1 i2 i3 i4 i5 i6
  obtain ⟨_, _, _, _, _, _, _, _, _⟩ := bz.out.cells
  have f0 := bz.out.thaw 0
  have f1 := bz.out.thaw 1
  have f2 := bz.out.thaw 2
  have f3 := bz.out.thaw 3
  have f4 := bz.out.thaw 4
  have f5 := bz.out.thaw 5
  have f6 := bz.out.thaw 6
  have f7 := bz.out.thaw 7
  have f8 := bz.out.thaw 8
  have hz := Lib.hid (bz.out.put zLv).cells
  clear bz
  go_wp2
  obtain ⟨z0, z1, z2, z3, z4, z5, z6, z7, z8⟩ := hz.out
  exact bodyPost_ret (v := .tuple #[lsv zLv, errv 1]) (by simp [results, Try.results11, go_sem, z0, z1, z2, z3, z4, z5, z6, z7, z8, errv]) rfl ⟨zLv, rfl, ((((((((x0.out.setCell hpl _).setCell hpl _).setCell hpl _).setCell hpl _).setCell hpl _).setCell hpl _).setCell hpl _).setCell hpl _).setCell hpl _⟩

set_option maxRecDepth 100000 in
set_option maxHeartbeats 16000000 in
theorem LC.addNo2 {F : Nat → Prop} {W : World} {y : Lv} {L : List It} {G : List I2} {t : HT} {ad : I2 → Nat} (h : LC F W y L G t ad) (x : It) (gone : Bool) (e0 : decide (x.c = 0) = false) (e1 : hasI L (x.c, x.k) = false) (e2 : (decide (x.lc = 0) || hasI L (x.lc, x.lk)) = false) :
    Calls Try.prog 11 #[lsv y, itv x, .bool gone] W fun e w' => ∃ z : Lv, e = .returned (.tuple #[lsv z, errv 1]) ∧ Ext W w' := by
  have x0 : Ext W (((W.alloc (lbox y)).alloc (icells x)).alloc (lbox zLv)) := (((Ext.refl W).alloc _).alloc _).alloc _
  have bl := ((BxL.new W y).ext ((Ext.refl _).alloc (icells x))).ext ((Ext.refl _).alloc (lbox zLv))
  have bi := (BoxI.newL (W.alloc (lbox y)) x).ext ((Ext.refl _).alloc (lbox zLv))
  have bz := BxL.new ((W.alloc (lbox y)).alloc (icells x)) zLv
  rw [show (W.alloc (lbox y)).heap.size = W.heap.size + 1 by simp] at bi
  rw [show ((W.alloc (lbox y)).alloc (icells x)).heap.size = W.heap.size + 1 + 1 by simp] at bz
  have hpl : W.heap.size ≤ W.heap.size + 1 + 1 := by omega
  have q0 := Lib.hid (fun (w : World) => none_lit (k := x.k) e0 w)
  have q1 := Lib.hid (fun w (hw : Ext W w) => (h.ext hw).findNo (c := x.c) (k := x.k) e1)
  have q2 := Lib.hid (fun w (hw : Ext W w) => (h.ext hw).noneOrHas x.lc x.lk e2)
  clear h e0 e1 e2
  obtain ⟨pz, hpz⟩ : ∃ pz, W.heap.size + 1 + 1 = pz := ⟨_, rfl⟩
  obtain ⟨pi, hpi⟩ : ∃ pi, W.heap.size + 1 = pi := ⟨_, rfl⟩
  rw [hpz] at bz hpl
  rw [hpi] at bi
  obtain ⟨b0, b1, b2, b3, b4, b5, b6, b7, b8⟩ := bl.cells
  obtain ⟨i0, i1, i2, i3, i4, i5, i6⟩ := bi.cells
  simp only [Nat.zero_add] at i0 i1 i2 i3 i4 i5 i6
  go_enter Try.func11, Try.ntmps11
  rw [← hpi] at i0 i1 i2 i3 i4 i5 i6
  replace bz := Lib.hid bz
  replace x0 := Lib.hid x0
  replace hpz := Lib.hid hpz
  replace hpi := Lib.hid hpi
  clear bl bi
  go_wp2_with fail
  rw [hpz.out, hpi.out]
  rw [hpi.out] at i0 i1 i2 i3 i4 i5 i6
  refine (q0.out _).mono ?_
  rintro e w0 ⟨rfl, x1⟩
  replace b0 := x1.keep b0
  replace b1 := x1.keep b1
  replace b2 := x1.keep b2
  replace b3 := x1.keep b3
  replace b4 := x1.keep b4
  replace b5 := x1.keep b5
  replace b6 := x1.keep b6
  replace b7 := x1.keep b7
  replace b8 := x1.keep b8
  replace i0 := x1.keep i0
  replace i1 := x1.keep i1
  replace i2 := x1.keep i2
  replace i3 := x1.keep i3
  replace i4 := x1.keep i4
  replace i5 := x1.keep i5
  replace i6 := x1.keep i6
  replace bz := Lib.hid (bz.out.ext x1)
  replace x0 := Lib.hid (x0.out.trans x1)
  clear x1 q0
  go_wp2_with fail
  refine (q1.out _ x0.out).mono ?_
  rintro e w1 ⟨rfl, x1⟩
  replace b0 := x1.keep b0
  replace b1 := x1.keep b1
  replace b2 := x1.keep b2
  replace b3 := x1.keep b3
  replace b4 := x1.keep b4
  replace b5 := x1.keep b5
  replace b6 := x1.keep b6
  replace b7 := x1.keep b7
  replace b8 := x1.keep b8
  replace i0 := x1.keep i0
  replace i1 := x1.keep i1
  replace i2 := x1.keep i2
  replace i3 := x1.keep i3
  replace i4 := x1.keep i4
  replace i5 := x1.keep i5
  replace i6 := x1.keep i6
  replace bz := Lib.hid (bz.out.ext x1)
  replace x0 := Lib.hid (x0.out.trans x1)
  clear x1 q1
  go_wp2_with fail
  refine (q2.out _ x0.out).mono ?_
  rintro e w2 ⟨rfl, x1⟩
  replace bz := Lib.hid (bz.out.ext x1)
  replace x0 := Lib.hid (x0.out.trans x1)
  clear x1 q2
  clear b0 b1 b2 b3 b4 b5 b6 b7 b8 i0 i1 i2 i3 i4 i5 i6
  obtain ⟨_, _, _, _, _, _, _, _, _⟩ := bz.out.cells
  have f0 := bz.out.thaw 0
  have f1 := bz.out.thaw 1
  have f2 := bz.out.thaw 2
  have f3 := bz.out.thaw 3
  have f4 := bz.out.thaw 4
  have f5 := bz.out.thaw 5
  have f6 := bz.out.thaw 6
  have f7 := bz.out.thaw 7
  have f8 := bz.out.thaw 8
  have hz := Lib.hid (bz.out.put zLv).cells
  clear bz
  go_wp2
  obtain ⟨z0, z1, z2, z3, z4, z5, z6, z7, z8⟩ := hz.out
  exact bodyPost_ret (v := .tuple #[lsv zLv, errv 1]) (by simp [results, Try.results11, go_sem, z0, z1, z2, z3, z4, z5, z6, z7, z8, errv]) rfl ⟨zLv, rfl, ((((((((x0.out.setCell hpl _).setCell hpl _).setCell hpl _).setCell hpl _).setCell hpl _).setCell hpl _).setCell hpl _).setCell hpl _).setCell hpl _⟩

set_option maxRecDepth 100000 in
set_option maxHeartbeats 16000000 in
theorem LC.addNo3 {F : Nat → Prop} {W : World} {y : Lv} {L : List It} {G : List I2} {t : HT} {ad : I2 → Nat} (h : LC F W y L G t ad) (x : It) (gone : Bool) (e0 : decide (x.c = 0) = false) (e1 : hasI L (x.c, x.k) = false) (e2 : (decide (x.lc = 0) || hasI L (x.lc, x.lk)) = true) (e3 : (decide (x.rc = 0) || hasI L (x.rc, x.rk)) = false) :
    Calls Try.prog 11 #[lsv y, itv x, .bool gone] W fun e w' => ∃ z : Lv, e = .returned (.tuple #[lsv z, errv 1]) ∧ Ext W w' := by
  have x0 : Ext W (((W.alloc (lbox y)).alloc (icells x)).alloc (lbox zLv)) := (((Ext.refl W).alloc _).alloc _).alloc _
  have bl := ((BxL.new W y).ext ((Ext.refl _).alloc (icells x))).ext ((Ext.refl _).alloc (lbox zLv))
  have bi := (BoxI.newL (W.alloc (lbox y)) x).ext ((Ext.refl _).alloc (lbox zLv))
  have bz := BxL.new ((W.alloc (lbox y)).alloc (icells x)) zLv
  rw [show (W.alloc (lbox y)).heap.size = W.heap.size + 1 by simp] at bi
  rw [show ((W.alloc (lbox y)).alloc (icells x)).heap.size = W.heap.size + 1 + 1 by simp] at bz
  have hpl : W.heap.size ≤ W.heap.size + 1 + 1 := by omega
  have q0 := Lib.hid (fun (w : World) => none_lit (k := x.k) e0 w)
  have q1 := Lib.hid (fun w (hw : Ext W w) => (h.ext hw).findNo (c := x.c) (k := x.k) e1)
  have q2 := Lib.hid (fun w (hw : Ext W w) => (h.ext hw).noneOrHas x.lc x.lk e2)
  have q3 := Lib.hid (fun w (hw : Ext W w) => (h.ext hw).noneOrHas x.rc x.rk e3)
  clear h e0 e1 e2 e3
  obtain ⟨pz, hpz⟩ : ∃ pz, W.heap.size + 1 + 1 = pz := ⟨_, rfl⟩
  obtain ⟨pi, hpi⟩ : ∃ pi, W.heap.size + 1 = pi := ⟨_, rfl⟩
  rw [hpz] at bz hpl
  rw [hpi] at bi
  obtain ⟨b0, b1, b2, b3, b4, b5, b6, b7, b8⟩ := bl.cells
  obtain ⟨i0, i1, i2, i3, i4, i5, i6⟩ := bi.cells
  simp only [Nat.zero_add] at i0 i1 i2 i3 i4 i5 i6
  go_enter Try.func11, Try.ntmps11
  rw [← hpi] at i0 i1 i2 i3 i4 i5 i6
  replace bz := Lib.hid bz
  replace x0 := Lib.hid x0
  replace hpz := Lib.hid hpz
  replace hpi := Lib.hid hpi
  clear bl bi
  go_wp2_with fail
  rw [hpz.out, hpi.out]
  rw [hpi.out] at i0 i1 i2 i3 i4 i5 i6
  refine (q0.out _).mono ?_
  rintro e w0 ⟨rfl, x1⟩
  replace b0 := x1.keep b0
  replace b1 := x1.keep b1
  replace b2 := x1.keep b2
  replace b3 := x1.keep b3
  replace b4 := x1.keep b4
  replace b5 := x1.keep b5
  replace b6 := x1.keep b6
  replace b7 := x1.keep b7
  replace b8 := x1.keep b8
  replace i0 := x1.keep i0
  replace i1 := x1.keep i1
  replace i2 := x1.keep i2
  replace i3 := x1.keep i3
  replace i4 := x1.keep i4
  replace i5 := x1.keep i5
  replace i6 := x1.keep i6
  replace bz := Lib.hid (bz.out.ext x1)
  replace x0 := Lib.hid (x0.out.trans x1)
  clear x1 q0
  go_wp2_with fail
  refine (q1.out _ x0.out).mono ?_
  rintro e w1 ⟨rfl, x1⟩
  replace b0 := x1.keep b0
  replace b1 := x1.keep b1
  replace b2 := x1.keep b2
  replace b3 := x1.keep b3
  replace b4 := x1.keep b4
  replace b5 := x1.keep b5
  replace b6 := x1.keep b6
  replace b7 := x1.keep b7
  replace b8 := x1.keep b8
  replace i0 := x1.keep i0
  replace i1 := x1.keep i1
  replace i2 := x1.keep i2
  replace i3 := x1.keep i3
  replace i4 := x1.keep i4
  replace i5 := x1.keep i5
  replace i6 := x1.keep i6
  replace bz := Lib.hid (bz.out.ext x1)
  replace x0 := Lib.hid (x0.out.trans x1)
  clear x1 q1
  go_wp2_with fail
  refine (q2.out _ x0.out).mono ?_
  rintro e w2 ⟨rfl, x1⟩
  replace b0 := x1.keep b0
  replace b1 := x1.keep b1
  replace b2 := x1.keep b2
  replace b3 := x1.keep b3
  replace b4 := x1.keep b4
  replace b5 := x1.keep b5
  replace b6 := x1.keep b6
  replace b7 := x1.keep b7
  replace b8 := x1.keep b8
  replace i0 := x1.keep i0
  replace i1 := x1.keep i1
  replace i2 := x1.keep i2
  replace i3 := x1.keep i3
  replace i4 := x1.keep i4
  replace i5 := x1.keep i5
  replace i6 := x1.keep i6
  replace bz := Lib.hid (bz.out.ext x1)
  replace x0 := Lib.hid (x0.out.trans x1)
  clear x1 q2
  go_wp2_with fail
  refine (q3.out _ x0.out).mono ?_
  rintro e w3 ⟨rfl, x1⟩
  replace bz := Lib.hid (bz.out.ext x1)
  replace x0 := Lib.hid (x0.out.trans x1)
  clear x1 q3
  clear b0 b1 b2 b3 b4 b5 b6 b7 b8 i0 i1 i2 i3 i4 i5 i6
  obtain ⟨_, _, _, _, _, _, _, _, _⟩ := bz.out.cells
  have f0 := bz.out.thaw 0
  have f1 := bz.out.thaw 1
  have f2 := bz.out.thaw 2
  have f3 := bz.out.thaw 3
  have f4 := bz.out.thaw 4
  have f5 := bz.out.thaw 5
  have f6 := bz.out.thaw 6
  have f7 := bz.out.thaw 7
  have f8 := bz.out.thaw 8
  have hz := Lib.hid (bz.out.put zLv).cells
  clear bz
  go_wp2
  obtain ⟨z0, z1, z2, z3, z4, z5, z6, z7, z8⟩ := hz.out
  exact bodyPost_ret (v := .tuple #[lsv zLv, errv 1]) (by simp [results, Try.results11, go_sem, z0, z1, z2, z3, z4, z5, z6, z7, z8, errv]) rfl ⟨zLv, rfl, ((((((((x0.out.setCell hpl _).setCell hpl _).setCell hpl _).setCell hpl _).setCell hpl _).setCell hpl _).setCell hpl _).setCell hpl _).setCell hpl _⟩

set_option maxRecDepth 100000 in
set_option maxHeartbeats 16000000 in
theorem LC.addNo4 {F : Nat → Prop} {W : World} {y : Lv} {L : List It} {G : List I2} {t : HT} {ad : I2 → Nat} (h : LC F W y L G t ad) (x : It) (gone : Bool) (e0 : decide (x.c = 0) = false) (e1 : hasI L (x.c, x.k) = false) (e2 : (decide (x.lc = 0) || hasI L (x.lc, x.lk)) = true) (e3 : (decide (x.rc = 0) || hasI L (x.rc, x.rk)) = true) (e4 : okB x.ch = false) :
    Calls Try.prog 11 #[lsv y, itv x, .bool gone] W fun e w' => ∃ z : Lv, e = .returned (.tuple #[lsv z, errv 1]) ∧ Ext W w' := by
  have x0 : Ext W (((W.alloc (lbox y)).alloc (icells x)).alloc (lbox zLv)) := (((Ext.refl W).alloc _).alloc _).alloc _
  have bl := ((BxL.new W y).ext ((Ext.refl _).alloc (icells x))).ext ((Ext.refl _).alloc (lbox zLv))
  have bi := (BoxI.newL (W.alloc (lbox y)) x).ext ((Ext.refl _).alloc (lbox zLv))
  have bz := BxL.new ((W.alloc (lbox y)).alloc (icells x)) zLv
  rw [show (W.alloc (lbox y)).heap.size = W.heap.size + 1 by simp] at bi
  rw [show ((W.alloc (lbox y)).alloc (icells x)).heap.size = W.heap.size + 1 + 1 by simp] at bz
  have hpl : W.heap.size ≤ W.heap.size + 1 + 1 := by omega
  have q0 := Lib.hid (fun (w : World) => none_lit (k := x.k) e0 w)
  have q1 := Lib.hid (fun w (hw : Ext W w) => (h.ext hw).findNo (c := x.c) (k := x.k) e1)
  have q2 := Lib.hid (fun w (hw : Ext W w) => (h.ext hw).noneOrHas x.lc x.lk e2)
  have q3 := Lib.hid (fun w (hw : Ext W w) => (h.ext hw).noneOrHas x.rc x.rk e3)
  have q4 := Lib.hid (fun (w : World) => valid_any x.ch e4 w)
  clear h e0 e1 e2 e3 e4
  obtain ⟨pz, hpz⟩ : ∃ pz, W.heap.size + 1 + 1 = pz := ⟨_, rfl⟩
  obtain ⟨pi, hpi⟩ : ∃ pi, W.heap.size + 1 = pi := ⟨_, rfl⟩
  rw [hpz] at bz hpl
  rw [hpi] at bi
  obtain ⟨b0, b1, b2, b3, b4, b5, b6, b7, b8⟩ := bl.cells
  obtain ⟨i0, i1, i2, i3, i4, i5, i6⟩ := bi.cells
  simp only [Nat.zero_add] at i0 i1 i2 i3 i4 i5 i6
  go_enter Try.func11, Try.ntmps11
  rw [← hpi] at i0 i1 i2 i3 i4 i5 i6
  replace bz := Lib.hid bz
  replace x0 := Lib.hid x0
  replace hpz := Lib.hid hpz
  replace hpi := Lib.hid hpi
  clear bl bi
  go_wp2_with fail
  rw [hpz.out, hpi.out]
  rw [hpi.out] at i0 i1 i2 i3 i4 i5 i6
  refine (q0.out _).mono ?_
  rintro e w0 ⟨rfl, x1⟩
  replace b0 := x1.keep b0
  replace b1 := x1.keep b1
  replace b2 := x1.keep b2
  replace b3 := x1.keep b3
  replace b4 := x1.keep b4
  replace b5 := x1.keep b5
  replace b6 := x1.keep b6
  replace b7 := x1.keep b7
  replace b8 := x1.keep b8
  replace i0 := x1.keep i0
  replace i1 := x1.keep i1
  replace i2 := x1.keep i2
  replace i3 := x1.keep i3
  replace i4 := x1.keep i4
  replace i5 := x1.keep i5
  replace i6 := x1.keep i6
  replace bz := Lib.hid (bz.out.ext x1)
  replace x0 := Lib.hid (x0.out.trans x1)
  clear x1 q0
  go_wp2_with fail
  refine (q1.out _ x0.out).mono ?_
  rintro e w1 ⟨rfl, x1⟩
  replace b0 := x1.keep b0
  replace b1 := x1.keep b1
  replace b2 := x1.keep b2
  replace b3 := x1.keep b3
  replace b4 := x1.keep b4
  replace b5 := x1.keep b5
  replace b6 := x1.keep b6
  replace b7 := x1.keep b7
  replace b8 := x1.keep b8
  replace i0 := x1.keep i0
  replace i1 := x1.keep i1
  replace i2 := x1.keep i2
  replace i3 := x1.keep i3
  replace i4 := x1.keep i4
  replace i5 := x1.keep i5
  replace i6 := x1.keep i6
  replace bz := Lib.hid (bz.out.ext x1)
  replace x0 := Lib.hid (x0.out.trans x1)
  clear x1 q1
  go_wp2_with fail
  refine (q2.out _ x0.out).mono ?_
  rintro e w2 ⟨rfl, x1⟩
  replace b0 := x1.keep b0
  replace b1 := x1.keep b1
  replace b2 := x1.keep b2
  replace b3 := x1.keep b3
  replace b4 := x1.keep b4
  replace b5 := x1.keep b5
  replace b6 := x1.keep b6
  replace b7 := x1.keep b7
  replace b8 := x1.keep b8
  replace i0 := x1.keep i0
  replace i1 := x1.keep i1
  replace i2 := x1.keep i2
  replace i3 := x1.keep i3
  replace i4 := x1.keep i4
  replace i5 := x1.keep i5
  replace i6 := x1.keep i6
  replace bz := Lib.hid (bz.out.ext x1)
  replace x0 := Lib.hid (x0.out.trans x1)
  clear x1 q2
  go_wp2_with fail
  refine (q3.out _ x0.out).mono ?_
  rintro e w3 ⟨rfl, x1⟩
  replace b0 := x1.keep b0
  replace b1 := x1.keep b1
  replace b2 := x1.keep b2
  replace b3 := x1.keep b3
  replace b4 := x1.keep b4
  replace b5 := x1.keep b5
  replace b6 := x1.keep b6
  replace b7 := x1.keep b7
  replace b8 := x1.keep b8
  replace i0 := x1.keep i0
  replace i1 := x1.keep i1
  replace i2 := x1.keep i2
  replace i3 := x1.keep i3
  replace i4 := x1.keep i4
  replace i5 := x1.keep i5
  replace i6 := x1.keep i6
  replace bz := Lib.hid (bz.out.ext x1)
  replace x0 := Lib.hid (x0.out.trans x1)
  clear x1 q3
  go_wp2_with fail
  refine (q4.out _).mono ?_
  rintro e w4 ⟨rfl, x1⟩
  replace bz := Lib.hid (bz.out.ext x1)
  replace x0 := Lib.hid (x0.out.trans x1)
  clear x1 q4
  clear b0 b1 b2 b3 b4 b5 b6 b7 b8 i0 i1 i2 i3 i4 i5 i6
  obtain ⟨_, _, _, _, _, _, _, _, _⟩ := bz.out.cells
  have f0 := bz.out.thaw 0
  have f1 := bz.out.thaw 1
  have f2 := bz.out.thaw 2
  have f3 := bz.out.thaw 3
  have f4 := bz.out.thaw 4
  have f5 := bz.out.thaw 5
  have f6 := bz.out.thaw 6
  have f7 := bz.out.thaw 7
  have f8 := bz.out.thaw 8
  have hz := Lib.hid (bz.out.put zLv).cells
  clear bz
  go_wp2
  obtain ⟨z0, z1, z2, z3, z4, z5, z6, z7, z8⟩ := hz.out
  exact bodyPost_ret (v := .tuple #[lsv zLv, errv 1]) (by simp [results, Try.results11, go_sem, z0, z1, z2, z3, z4, z5, z6, z7, z8, errv]) rfl ⟨zLv, rfl, ((((((((x0.out.setCell hpl _).setCell hpl _).setCell hpl _).setCell hpl _).setCell hpl _).setCell hpl _).setCell hpl _).setCell hpl _).setCell hpl _⟩

theorem LC.addNo {F : Nat → Prop} {W : World} {y : Lv} {L : List It} {G : List I2} {t : HT} {ad : I2 → Nat} (h : LC F W y L G t ad) (x : It) (gone : Bool) (hno : canI L x = false) :
    Calls Try.prog 11 #[lsv y, itv x, .bool gone] W fun e w' => ∃ z : Lv, e = .returned (.tuple #[lsv z, errv 1]) ∧ Ext W w' := by
  unfold canI at hno
  cases e0 : decide (x.c = 0) with
  | true => exact h.addNo0 x gone e0
  | false =>
    cases e1 : hasI L (x.c, x.k) with
    | true => exact h.addNo1 x gone e0 e1
    | false =>
      cases e2 : (decide (x.lc = 0) || hasI L (x.lc, x.lk)) with
      | false => exact h.addNo2 x gone e0 e1 e2
      | true =>
        cases e3 : (decide (x.rc = 0) || hasI L (x.rc, x.rk)) with
        | false => exact h.addNo3 x gone e0 e1 e2 e3
        | true =>
          cases e4 : okB x.ch with
          | false => exact h.addNo4 x gone e0 e1 e2 e3 e4
          | true => rw [e0, e1, e2, e3, e4] at hno; cases hno
end Go.Proofs.Ytmpomammieenjaa
