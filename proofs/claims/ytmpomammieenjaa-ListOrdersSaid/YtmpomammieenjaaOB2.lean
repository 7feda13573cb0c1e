/-
  Several texts of this seat in one file, each in the namespace again; no claim stands here.
-/
import Derived.Maps.OwnOps
import Derived.Test.YtmpomammieenjaaOA2
import Derived.Test.YtmpomammieenjaaOT
import Derived.Test.YtmpomammieenjaaOS
import Derived.Test.YtmpomammieenjaaUMth
namespace Go.Proofs.Ytmpomammieenjaa
open Go.ChangeShapes Go.WideShapes Go.ChangeAt Go.RowKit Go.Sort
set_option linter.unusedVariables false
set_option linter.unusedSimpArgs false
set_option linter.unusedSimpArgs false
attribute [local go_sem] World.cell?_alloc_some

def hrpTab (y : Lv) (L : List It) (x : It) (pb pn pf fr n N : Nat) : SoftTab := [(29, fun z9 W => z9 = Vi (fr : Int)),
  (30, fun z9 W => z9 = .pointer (some ⟨pb, 0, none⟩)),
  (31, fun z9 W => z9 = ixv (xl y)),
  (32, fun z9 W => z9 = Vi (n : Int)),
  (33, fun z9 W => z9 = Vi (fr : Int)),
  (34, fun z9 W => z9 = Vi (N : Int)),
  (35, fun z9 W => z9 = .func (.func 85) #[] #[.pointer (some ⟨pb, 0, none⟩), .pointer (some ⟨pf, 0, none⟩), .pointer (some ⟨pn, 0, none⟩)]),
  (36, fun z9 W => ∃ k : Nat, z9 = Vi (k : Int) ∧ (k ≤ 900 ∧ PlcOk L x (fr + k)))]
theorem hrpTab_mono (y : Lv) (L : List It) (x : It) (pb pn pf fr n N : Nat) (Rel : World → World → Prop) (hR : ∀ W W', Rel W W' → Ext W W') : SoftMonoR Rel (hrpTab y L x pb pn pf fr n N) := by
  intro p hp v W W' h hx
  simp only [hrpTab, List.mem_cons, List.not_mem_nil, or_false] at hp
  rcases hp with rfl | rfl | rfl | rfl | rfl | rfl | rfl | rfl
  all_goals first
    | exact h
    | exact h

theorem hg_rt {L : List It} {x : It} (hx : knownX L x = true) : RtL L (hgP L x).on := by
  obtain ⟨_, _, hl, hr⟩ := knownX_spec hx
  by_cases hrc : x.rc = 0
  · rw [hgP_st hrc]
    by_cases hlc : x.lc = 0
    · rw [if_pos hlc]; exact .inl rfl
    · rw [if_neg hlc]; exact .inr (hl.resolve_left hlc)
  · by_cases hlc : x.lc = 0
    · rw [hgP_rt hrc hlc]; exact .inr (hr.resolve_left hrc)
    · rw [hgP_bo hrc hlc]
      split
      · exact .inr (hr.resolve_left hrc)
      · exact .inr (hl.resolve_left hlc)
theorem ltI_irr (a : I2) : ltI a a = false := by
  cases h : ltI a a with
  | false => rfl
  | true => have := ltI_asymm h; rw [h] at this; cases this
theorem cmp_gt (a b c d : Int) : (cmpId a b c d = -1 ∧ ltI (c, d) (a, b) = false) ∨ (cmpId a b c d = 0 ∧ ltI (c, d) (a, b) = false) ∨ (cmpId a b c d = 1 ∧ ltI (c, d) (a, b) = true) := by
  rcases cmp3 a b c d with ⟨h1, h2⟩ | ⟨h1, rfl, rfl⟩ | ⟨h1, h2⟩
  · exact .inl ⟨h1, ltI_asymm h2⟩
  · exact .inr (.inl ⟨h1, ltI_irr _⟩)
  · exact .inr (.inr ⟨h1, h2⟩)
def rtA (r : Option I2) (b : I2) : Bool := match r with
  | none => true
  | some c => ltI b c
def lfA (r : Option I2) (b : I2) : Bool := match r with
  | none => false
  | some c => ltI b c

set_option maxRecDepth 100000 in
set_option maxHeartbeats 16000000 in
theorem rightC_any {F : Nat → Prop} {W : World} {y : Lv} {L : List It} {G : List I2} {t : HT} {ad : I2 → Nat} (h : LC F W y L G t ad) (hl : L.length ≤ 900) (x : It) (bx bf bn nn : Nat) (on : I2) (d : Int) (vf : Value) (r : Bool) (hbx : BxL W bx y) (fr k : Nat) (hbf : W.cell? ⟨bf, 0, none⟩ = some (Vi (fr : Int))) (hbn : W.cell? ⟨bn, 0, none⟩ = some (Vp nn))
    (hc : NC W nn x (vAd ad on) r d vf) (hon : RtL L on) {a : I2} (ha : (ordL L)[fr + k]? = some a) :
    Calls Try.prog 85 (#[Vi (k : Int)] ++ #[.pointer (some ⟨bx, 0, none⟩), .pointer (some ⟨bf, 0, none⟩), .pointer (some ⟨bn, 0, none⟩)]) W fun e w' => e = .returned (.bool (rtA (hungP L a on) (iid x))) ∧ Ext W w' := by
  have hk9 : fr + k ≤ 900 := by have := lt_of_get ha; rw [ord_len' h.nd.kn] at this; omega
  have hj1 := Lib.hid (fun w' (hw : Ext W w') => (h.ext hw).nodeAt (by omega) ha)
  have hj2 := Lib.hid (fun w' (hw : Ext W w') => hungOn_any w' (h.ext hw).nd (ord_has h.nd.kn ha) hon (by omega))
  obtain ⟨R, hR⟩ : ∃ R, hungP L a on = R := ⟨_, rfl⟩
  have hRi : ∀ c, R = some c → hasI L c = true := fun c e => by
    rcases hung_or L a on with ⟨s, c', r, e1, e2⟩ | ⟨_, e2⟩
    · rw [e2] at hR
      rw [← hR] at e
      injection e with e
      subst e
      exact (pth_part h.nd.kn (ord_has h.nd.kn ha) e1).1
    · rw [e2] at hR
      rw [← hR] at e
      cases e
  rw [hR] at hj2 ⊢
  replace hRi := Lib.hid hRi
  replace h := Lib.hid h
  obtain ⟨pon, hpon⟩ := vAd_ptr ad on
  rw [hpon] at hc hj2
  clear hR hpon hon ha
  obtain ⟨V, hV⟩ : ∃ V, hgV ad R = V := ⟨_, rfl⟩
  rw [hV] at hj2
  replace hV := Lib.hid hV
  obtain ⟨pa, hpa⟩ : ∃ pa, ad a = pa := ⟨_, rfl⟩
  rw [hpa] at hj1 hj2
  clear hpa
  rw [show ((fr + k : Nat) : Int) = (fr : Int) + (k : Int) by omega] at hj1
  have hw0 : IntKind.i64.wrap ((fr : Int) + (k : Int)) = (fr : Int) + (k : Int) := IntWalk.i64_in _ (by omega)
  have hfz : (fr : Int) ≤ 900 := by omega
  have hkz : (k : Int) ≤ 900 := by omega
  obtain ⟨c0, c1, _, _, _, _, _, c7, _, _, _⟩ := hc.cells
  obtain ⟨b0, b1, b2, b3, b4, b5, b6, b7, b8⟩ := hbx.cells
  have xd : Ext W W := Ext.refl W
  show Calls Try.prog _ #[Vi (k : Int), .pointer (some ⟨bx, 0, none⟩), .pointer (some ⟨bf, 0, none⟩), .pointer (some ⟨bn, 0, none⟩)] W _
  have c0' := c0
  have c1' := c1
  have hbn' := hbn
  clear hc hbx hw0
  replace hbf := cell_regrown hbf
  replace hbn := cell_regrown hbn
  replace c7 := cell_regrown c7
  replace b0 := cell_regrown b0
  replace b1 := cell_regrown b1
  replace b2 := cell_regrown b2
  replace b3 := cell_regrown b3
  replace b4 := cell_regrown b4
  replace b5 := cell_regrown b5
  replace b6 := cell_regrown b6
  replace b7 := cell_regrown b7
  replace b8 := cell_regrown b8
  clear c0 c1
  go_enter Try.func85, Try.ntmps85
  go_wp2_with fail
  refine wp_region_quiet_below (by kernel_rfl) (by kernel_rfl) ?_
  repeat go_big_quiet_step ((first | with_reducible exact Calls.in_regrown (hj1.out _ (Ext.regrown _ _ _)) | with_reducible exact Calls.same_regrown (hj2.out _ (Ext.regrown _ _ _))))
  refine wpQuiet_nil ?_
  intro _ hw'
  obtain ⟨⟨dq, osq⟩, hw''⟩ := hw'
  subst hw''
  have xr := Ext.regrown W dq osq
  replace c0' := xr.keep c0'
  replace c1' := xr.keep c1'
  replace hbn' := xr.keep hbn'
  have hL := Lib.hid (h.out.ext xr)
  clear b0 b1 b2 b3 b4 b5 b6 b7 b8 hbf hbn c7 hj1 hj2 xd
  replace xr := Lib.hid xr
  generalize grow (redrawn W dq) osq = w1 at *
  cases R with
  | none =>
    obtain rfl : Vnil = V := hV.out
    clear hV hRi hL
    go_wp2_with fail
    refine wp_region_quiet_below (by kernel_rfl) (by kernel_rfl) ?_
    repeat go_big_quiet_step ((fail))
    refine wpQuiet_nil ?_
    intro _ hw'
    obtain ⟨⟨dq, osq⟩, hw''⟩ := hw'
    subst hw''
    have xE := Lib.hid (xr.out.trans (Ext.regrown w1 dq osq))
    go_wp2
    go_ret
    exact ⟨rfl, xE.out⟩
  | some c =>
    obtain ⟨c1, c2⟩ := c
    obtain ⟨x2, on2, far2, r2, q2, hid2, _, _, _, _, _, hc2⟩ := hL.out.nd.get (hRi.out _ rfl)
    obtain ⟨d0, d1, _, _, _, _, _, _, _, _, _⟩ := hc2.cells
    rw [show x2.c = c1 from congrArg Prod.fst hid2] at d0
    rw [show x2.k = c2 from congrArg Prod.snd hid2] at d1
    obtain rfl : Vp (ad (c1, c2)) = V := hV.out
    generalize ad (c1, c2) = pc at *
    replace d0 := cell_regrown d0
    replace d1 := cell_regrown d1
    replace c0' := cell_regrown c0'
    replace c1' := cell_regrown c1'
    replace hbn' := cell_regrown hbn'
    clear hV hRi hL hc2 hid2
    rcases cmp_gt c1 c2 x.c x.k with ⟨hcm, ho⟩ | ⟨hcm, ho⟩ | ⟨hcm, ho⟩
    · have hcc := Lib.hid (fun w' => cmp_lit hcm w')
      have hres := Lib.hid (show Ending.returned (.bool false) = Ending.returned (.bool (rtA (some (c1, c2)) (iid x))) from by rw [show rtA (some (c1, c2)) (iid x) = ltI (x.c, x.k) (c1, c2) from rfl, ho])
      clear hcm ho
      go_wp2_with fail
      refine wp_region_quiet_below (by kernel_rfl) (by kernel_rfl) ?_
      repeat go_big_quiet_step ((with_reducible exact Calls.in_regrown (hcc.out _)))
      refine wpQuiet_nil ?_
      intro _ hw'
      obtain ⟨⟨dq, osq⟩, hw''⟩ := hw'
      subst hw''
      have xE := Lib.hid (xr.out.trans (Ext.regrown w1 dq osq))
      go_wp2
      go_ret
      exact ⟨hres.out, xE.out⟩
    · have hcc := Lib.hid (fun w' => cmp_lit hcm w')
      have hres := Lib.hid (show Ending.returned (.bool false) = Ending.returned (.bool (rtA (some (c1, c2)) (iid x))) from by rw [show rtA (some (c1, c2)) (iid x) = ltI (x.c, x.k) (c1, c2) from rfl, ho])
      clear hcm ho
      go_wp2_with fail
      refine wp_region_quiet_below (by kernel_rfl) (by kernel_rfl) ?_
      repeat go_big_quiet_step ((with_reducible exact Calls.in_regrown (hcc.out _)))
      refine wpQuiet_nil ?_
      intro _ hw'
      obtain ⟨⟨dq, osq⟩, hw''⟩ := hw'
      subst hw''
      have xE := Lib.hid (xr.out.trans (Ext.regrown w1 dq osq))
      go_wp2
      go_ret
      exact ⟨hres.out, xE.out⟩
    · have hcc := Lib.hid (fun w' => cmp_lit hcm w')
      have hres := Lib.hid (show Ending.returned (.bool true) = Ending.returned (.bool (rtA (some (c1, c2)) (iid x))) from by rw [show rtA (some (c1, c2)) (iid x) = ltI (x.c, x.k) (c1, c2) from rfl, ho])
      clear hcm ho
      go_wp2_with fail
      refine wp_region_quiet_below (by kernel_rfl) (by kernel_rfl) ?_
      repeat go_big_quiet_step ((with_reducible exact Calls.in_regrown (hcc.out _)))
      refine wpQuiet_nil ?_
      intro _ hw'
      obtain ⟨⟨dq, osq⟩, hw''⟩ := hw'
      subst hw''
      have xE := Lib.hid (xr.out.trans (Ext.regrown w1 dq osq))
      go_wp2
      go_ret
      exact ⟨hres.out, xE.out⟩

set_option maxRecDepth 100000 in
set_option maxHeartbeats 16000000 in
theorem leftC_any {F : Nat → Prop} {W : World} {y : Lv} {L : List It} {G : List I2} {t : HT} {ad : I2 → Nat} (h : LC F W y L G t ad) (hl : L.length ≤ 900) (x : It) (bx bn nn : Nat) (on : I2) (d : Int) (vf : Value) (r : Bool) (hbx : BxL W bx y) (k : Nat) (hbn : W.cell? ⟨bn, 0, none⟩ = some (Vp nn))
    (hc : NC W nn x (vAd ad on) r d vf) (hon : RtL L on) {a : I2} (ha : (ordL L)[k]? = some a) :
    Calls Try.prog 87 (#[Vi (k : Int)] ++ #[.pointer (some ⟨bx, 0, none⟩), .pointer (some ⟨bn, 0, none⟩)]) W fun e w' => e = .returned (.bool (lfA (hungP L a on) (iid x))) ∧ Ext W w' := by
  have hk9 : k ≤ 900 := by have := lt_of_get ha; rw [ord_len' h.nd.kn] at this; omega
  have hj1 := Lib.hid (fun w' (hw : Ext W w') => (h.ext hw).nodeAt (by omega) ha)
  have hj2 := Lib.hid (fun w' (hw : Ext W w') => hungOn_any w' (h.ext hw).nd (ord_has h.nd.kn ha) hon (by omega))
  obtain ⟨R, hR⟩ : ∃ R, hungP L a on = R := ⟨_, rfl⟩
  have hRi : ∀ c, R = some c → hasI L c = true := fun c e => by
    rcases hung_or L a on with ⟨s, c', r, e1, e2⟩ | ⟨_, e2⟩
    · rw [e2] at hR
      rw [← hR] at e
      injection e with e
      subst e
      exact (pth_part h.nd.kn (ord_has h.nd.kn ha) e1).1
    · rw [e2] at hR
      rw [← hR] at e
      cases e
  rw [hR] at hj2 ⊢
  replace hRi := Lib.hid hRi
  replace h := Lib.hid h
  obtain ⟨pon, hpon⟩ := vAd_ptr ad on
  rw [hpon] at hc hj2
  clear hR hpon hon ha
  obtain ⟨V, hV⟩ : ∃ V, hgV ad R = V := ⟨_, rfl⟩
  rw [hV] at hj2
  replace hV := Lib.hid hV
  obtain ⟨pa, hpa⟩ : ∃ pa, ad a = pa := ⟨_, rfl⟩
  rw [hpa] at hj1 hj2
  clear hpa
  have hkz : (k : Int) ≤ 900 := by omega
  obtain ⟨c0, c1, _, _, _, _, _, c7, _, _, _⟩ := hc.cells
  obtain ⟨b0, b1, b2, b3, b4, b5, b6, b7, b8⟩ := hbx.cells
  have xd : Ext W W := Ext.refl W
  show Calls Try.prog _ #[Vi (k : Int), .pointer (some ⟨bx, 0, none⟩), .pointer (some ⟨bn, 0, none⟩)] W _
  have c0' := c0
  have c1' := c1
  have hbn' := hbn
  clear hc hbx
  replace hbn := cell_regrown hbn
  replace c7 := cell_regrown c7
  replace b0 := cell_regrown b0
  replace b1 := cell_regrown b1
  replace b2 := cell_regrown b2
  replace b3 := cell_regrown b3
  replace b4 := cell_regrown b4
  replace b5 := cell_regrown b5
  replace b6 := cell_regrown b6
  replace b7 := cell_regrown b7
  replace b8 := cell_regrown b8
  clear c0 c1
  go_enter Try.func87, Try.ntmps87
  go_wp2_with fail
  refine wp_region_quiet_below (by kernel_rfl) (by kernel_rfl) ?_
  repeat go_big_quiet_step ((first | with_reducible exact Calls.in_regrown (hj1.out _ (Ext.regrown _ _ _)) | with_reducible exact Calls.same_regrown (hj2.out _ (Ext.regrown _ _ _))))
  refine wpQuiet_nil ?_
  intro _ hw'
  obtain ⟨⟨dq, osq⟩, hw''⟩ := hw'
  subst hw''
  have xr := Ext.regrown W dq osq
  replace c0' := xr.keep c0'
  replace c1' := xr.keep c1'
  replace hbn' := xr.keep hbn'
  have hL := Lib.hid (h.out.ext xr)
  clear b0 b1 b2 b3 b4 b5 b6 b7 b8 hbn c7 hj1 hj2 xd
  replace xr := Lib.hid xr
  generalize grow (redrawn W dq) osq = w1 at *
  cases R with
  | none =>
    obtain rfl : Vnil = V := hV.out
    clear hV hRi hL
    go_wp2_with fail
    refine wp_region_quiet_below (by kernel_rfl) (by kernel_rfl) ?_
    repeat go_big_quiet_step ((fail))
    refine wpQuiet_nil ?_
    intro _ hw'
    obtain ⟨⟨dq, osq⟩, hw''⟩ := hw'
    subst hw''
    have xE := Lib.hid (xr.out.trans (Ext.regrown w1 dq osq))
    go_wp2
    go_ret
    exact ⟨rfl, xE.out⟩
  | some c =>
    obtain ⟨c1, c2⟩ := c
    obtain ⟨x2, on2, far2, r2, q2, hid2, _, _, _, _, _, hc2⟩ := hL.out.nd.get (hRi.out _ rfl)
    obtain ⟨d0, d1, _, _, _, _, _, _, _, _, _⟩ := hc2.cells
    rw [show x2.c = c1 from congrArg Prod.fst hid2] at d0
    rw [show x2.k = c2 from congrArg Prod.snd hid2] at d1
    obtain rfl : Vp (ad (c1, c2)) = V := hV.out
    generalize ad (c1, c2) = pc at *
    replace d0 := cell_regrown d0
    replace d1 := cell_regrown d1
    replace c0' := cell_regrown c0'
    replace c1' := cell_regrown c1'
    replace hbn' := cell_regrown hbn'
    clear hV hRi hL hc2 hid2
    rcases cmp_gt c1 c2 x.c x.k with ⟨hcm, ho⟩ | ⟨hcm, ho⟩ | ⟨hcm, ho⟩
    · have hcc := Lib.hid (fun w' => cmp_lit hcm w')
      have hres := Lib.hid (show Ending.returned (.bool false) = Ending.returned (.bool (lfA (some (c1, c2)) (iid x))) from by rw [show lfA (some (c1, c2)) (iid x) = ltI (x.c, x.k) (c1, c2) from rfl, ho])
      clear hcm ho
      go_wp2_with fail
      refine wp_region_quiet_below (by kernel_rfl) (by kernel_rfl) ?_
      repeat go_big_quiet_step ((with_reducible exact Calls.in_regrown (hcc.out _)))
      refine wpQuiet_nil ?_
      intro _ hw'
      obtain ⟨⟨dq, osq⟩, hw''⟩ := hw'
      subst hw''
      have xE := Lib.hid (xr.out.trans (Ext.regrown w1 dq osq))
      go_wp2
      go_ret
      exact ⟨hres.out, xE.out⟩
    · have hcc := Lib.hid (fun w' => cmp_lit hcm w')
      have hres := Lib.hid (show Ending.returned (.bool false) = Ending.returned (.bool (lfA (some (c1, c2)) (iid x))) from by rw [show lfA (some (c1, c2)) (iid x) = ltI (x.c, x.k) (c1, c2) from rfl, ho])
      clear hcm ho
      go_wp2_with fail
      refine wp_region_quiet_below (by kernel_rfl) (by kernel_rfl) ?_
      repeat go_big_quiet_step ((with_reducible exact Calls.in_regrown (hcc.out _)))
      refine wpQuiet_nil ?_
      intro _ hw'
      obtain ⟨⟨dq, osq⟩, hw''⟩ := hw'
      subst hw''
      have xE := Lib.hid (xr.out.trans (Ext.regrown w1 dq osq))
      go_wp2
      go_ret
      exact ⟨hres.out, xE.out⟩
    · have hcc := Lib.hid (fun w' => cmp_lit hcm w')
      have hres := Lib.hid (show Ending.returned (.bool true) = Ending.returned (.bool (lfA (some (c1, c2)) (iid x))) from by rw [show lfA (some (c1, c2)) (iid x) = ltI (x.c, x.k) (c1, c2) from rfl, ho])
      clear hcm ho
      go_wp2_with fail
      refine wp_region_quiet_below (by kernel_rfl) (by kernel_rfl) ?_
      repeat go_big_quiet_step ((with_reducible exact Calls.in_regrown (hcc.out _)))
      refine wpQuiet_nil ?_
      intro _ hw'
      obtain ⟨⟨dq, osq⟩, hw''⟩ := hw'
      subst hw''
      have xE := Lib.hid (xr.out.trans (Ext.regrown w1 dq osq))
      go_wp2
      go_ret
      exact ⟨hres.out, xE.out⟩

theorem left_predA {l : List It} (h : knownI l = true) {x : It} (hx : knownX l x = true) (hr : (hgP l x).right = false) {a : I2} (ha : hasI l a = true) (hb : ltP (pth l a) (pth l (hgP l x).on) = true) : lfA (hungP l a (hgP l x).on) (iid x) = ltP (newQ l x) (pth l a) := by
  rw [← left_pred h hx hr ha hb]
  unfold lfA
  cases hungP l a (hgP l x).on <;> rfl
theorem right_predA {l : List It} (h : knownI l = true) {x : It} (hx : knownX l x = true) (hr : (hgP l x).right = true) {a : I2} (ha : hasI l a = true) (hb : (hgP l x).on = (0, 0) ∨ ltP (pth l (hgP l x).on) (pth l a) = true) : rtA (hungP l a (hgP l x).on) (iid x) = ltP (newQ l x) (pth l a) := by
  rw [← right_pred h hx hr ha hb]
  unfold rtA
  cases hungP l a (hgP l x).on <;> rfl
def lfP (L : List It) (on : I2) (x : It) (j : Nat) : Bool := match (ordL L)[j]? with
  | none => false
  | some a => lfA (hungP L a on) (iid x)
theorem lfP_at {L : List It} {on a : I2} {x : It} {j : Nat} (h : (ordL L)[j]? = some a) : lfP L on x j = lfA (hungP L a on) (iid x) := by unfold lfP; rw [h]
def rtP (L : List It) (on : I2) (x : It) (j : Nat) : Bool := match (ordL L)[j]? with
  | none => false
  | some a => rtA (hungP L a on) (iid x)
theorem rtP_at {L : List It} {on a : I2} {x : It} {j : Nat} (h : (ordL L)[j]? = some a) : rtP L on x j = rtA (hungP L a on) (iid x) := by unfold rtP; rw [h]
def PlS (L : List It) (x : It) (W : World) (e : Ending) (w' : World) : Prop := ∃ p : Nat, e = .returned (Vi (p : Int)) ∧ PlcOk L x p ∧ Ext W w'
theorem LC.lenI {F : Nat → Prop} {W : World} {y : Lv} {L : List It} {G : List I2} {t : HT} {ad : I2 → Nat} (h : LC F W y L G t ad) (hl : L.length ≤ 900) {n : Nat} (hn : L.length = n) : Calls Try.prog 84 #[ixv (xl y)] W fun e w' => e = .returned (Vi (n : Int)) ∧ Ext W w' := by
  rw [← hn, ← h.len]
  exact len_ix W _ _ h.ix (by rw [h.len]; omega)
theorem LC.findI {F : Nat → Prop} {W : World} {y : Lv} {L : List It} {G : List I2} {t : HT} {ad : I2 → Nat} (h : LC F W y L G t ad) (hl : L.length ≤ 900) {c k : Int} {q : Nat} (hq : findE (entL L G) c k = some q) : Calls Try.prog 51 #[ixv (xl y), idv c k] W fun e w' => e = .returned (.tuple #[Vi (q : Int), .bool true]) ∧ Ext W w' := by
  have := find_ix W _ _ c k h.ix (by rw [h.len]; omega)
  rwa [(fndY_some hq).1, (fndY_some hq).2] at this

set_option maxRecDepth 100000 in
set_option maxHeartbeats 16000000 in
theorem LC.leftPlace {F : Nat → Prop} {W : World} {y : Lv} {L : List It} {G : List I2} {t : HT} {ad : I2 → Nat} (h : LC F W y L G t ad) (hl : L.length ≤ 900) (x : It) (hx : knownX L x = true) (hr : (hgP L x).right = false) (nn : Nat) (d : Int) (vf : Value) (r : Bool) (hc : NC W nn x (vAd ad (hgP L x).on) r d vf) (hon : hasI L (hgP L x).on = true) :
    Calls Try.prog 60 #[lsv y, Vp nn] W (PlS L x W) := by
  obtain ⟨on, hon'⟩ : ∃ on, (hgP L x).on = on := ⟨_, rfl⟩
  obtain ⟨o1, o2⟩ := on
  rw [hon'] at hc hon
  obtain ⟨q, hq⟩ := find_of_has (show hasE (entL L G) o1 o2 = true by rw [ent_has h.nd.kn]; exact hon)
  have hqo := ent_find G hq
  have hq9 : q < 900 := by have := lt_of_get hqo; rw [ord_len' h.nd.kn] at this; omega
  obtain ⟨xo, _, _, _, _, hid, _, _, _, _, _, hco⟩ := h.nd.get hon
  have x0 : Ext W ((W.alloc (lbox y)).alloc (.cells #[Vp nn] 85)) := ((Ext.refl W).alloc _).alloc _
  have bl := (BxL.new W y).ext ((Ext.refl _).alloc (.cells #[Vp nn] 85))
  have bn0 : ((W.alloc (lbox y)).alloc (.cells #[Vp nn] 85)).cell? ⟨W.heap.size + 1, 0, none⟩ = some (Vp nn) := by simp [go_sem]
  have hs := Lib.hid (fun w1 (hE : Ext W w1) (b1 : BxL w1 W.heap.size y) (b2 : w1.cell? ⟨W.heap.size + 1, 0, none⟩ = some (Vp nn)) => search_any w1 87 #[.pointer (some ⟨W.heap.size, 0, none⟩), .pointer (some ⟨W.heap.size + 1, 0, none⟩)] q (lfP L (o1, o2) x) (fun args w => by simp [go_sem]) (by omega)
    (fun w2 hw2 j hj => by
      obtain ⟨a, ha⟩ : ∃ a, (ordL L)[j]? = some a := ⟨_, List.getElem?_eq_getElem (by have := lt_of_get hqo; omega)⟩
      rw [lfP_at ha]
      exact leftC_any (h.ext (hE.trans hw2)) hl x W.heap.size (W.heap.size + 1) nn (o1, o2) d vf r (b1.ext hw2) j (hw2.keep b2) (hc.ext (hE.trans hw2)) (.inr hon) ha)
    (fun i j hij hj hi => by
      obtain ⟨a, ha⟩ : ∃ a, (ordL L)[i]? = some a := ⟨_, List.getElem?_eq_getElem (by have := lt_of_get hqo; omega)⟩
      obtain ⟨b, hb⟩ : ∃ b, (ordL L)[j]? = some b := ⟨_, List.getElem?_eq_getElem (by have := lt_of_get hqo; omega)⟩
      rw [lfP_at ha] at hi
      rw [lfP_at hb]
      have ha2 := ord_lt h.nd.kn ha hqo (by omega)
      have hb2 := ord_lt h.nd.kn hb hqo (by omega)
      have e1 := left_predA h.nd.kn hx hr (ord_has h.nd.kn ha) (by rw [hon']; exact ha2)
      have e2 := left_predA h.nd.kn hx hr (ord_has h.nd.kn hb) (by rw [hon']; exact hb2)
      rw [hon'] at e1 e2
      rw [e1] at hi
      rw [e2]
      exact pred_mono h.nd.kn x ha hb hij hi))
  have hfin := Lib.hid (show ∀ k : Nat, (k ≤ q ∧ (∀ t, t < k → lfP L (o1, o2) x t = false) ∧ (∀ t, k ≤ t → t < q → lfP L (o1, o2) x t = true)) → PlcOk L x k from by
    rintro k ⟨h1, h2, h3⟩
    refine left_place h.nd.kn hx hr (q := q) h1 (by rw [hon']; exact hqo) (fun j a hj ha => ?_) (fun j a hj hjq ha => ?_)
    · have e1 := left_predA h.nd.kn hx hr (ord_has h.nd.kn ha) (by rw [hon']; exact ord_lt h.nd.kn ha hqo (by omega))
      rw [← e1, hon', ← lfP_at ha]
      exact h2 j hj
    · have e1 := left_predA h.nd.kn hx hr (ord_has h.nd.kn ha) (by rw [hon']; exact ord_lt h.nd.kn ha hqo hjq)
      rw [← e1, hon', ← lfP_at ha]
      exact h3 j hj hjq)
  have hfi := Lib.hid (fun w' (hw : Ext W w') => (h.ext hw).findI hl hq)
  rw [vAd_of h.nd.kn hon] at hc
  obtain ⟨_, _, _, _, _, _, _, c7, _, _, _⟩ := hc.cells
  obtain ⟨d0, d1, _, _, _, _, _, _, _, _, _⟩ := hco.cells
  rw [show xo.c = o1 from congrArg Prod.fst hid] at d0
  rw [show xo.k = o2 from congrArg Prod.snd hid] at d1
  generalize ad (o1, o2) = po at *
  replace c7 := x0.keep c7
  replace d0 := x0.keep d0
  replace d1 := x0.keep d1
  obtain ⟨b0, b1, b2, b3, b4, b5, b6, b7, b8⟩ := bl.cells
  clear hc hco hid hqo hon h hx hr hq
  replace bn0' := Lib.hid bn0
  go_enter Try.func60, Try.ntmps60
  go_wp2_with fail
  generalize (W.alloc (lbox y)).alloc (.cells #[Vp nn] 85) = w1 at *
  obtain ⟨pb, hpb⟩ : ∃ pb, W.heap.size = pb := ⟨_, rfl⟩
  obtain ⟨pn, hpn⟩ : ∃ pn, pb + 1 = pn := ⟨_, rfl⟩
  rw [hpb] at b0 b1 b2 b3 b4 b5 b6 b7 b8 bl hs bn0 bn0' ⊢
  rw [hpn] at bn0 bn0' hs ⊢
  clear hpn hpb
  replace b0 := cell_regrown b0
  replace b1 := cell_regrown b1
  replace b2 := cell_regrown b2
  replace b3 := cell_regrown b3
  replace b4 := cell_regrown b4
  replace b5 := cell_regrown b5
  replace b6 := cell_regrown b6
  replace b7 := cell_regrown b7
  replace b8 := cell_regrown b8
  replace bn0 := cell_regrown bn0
  replace c7 := cell_regrown c7
  replace d0 := cell_regrown d0
  replace d1 := cell_regrown d1
  replace bl := Lib.hid bl
  refine wp_region_quiet_below (by kernel_rfl) (by kernel_rfl) ?_
  repeat go_big_quiet_step ((with_reducible exact Calls.in_regrown (hfi.out _ (x0.trans (Ext.regrown _ _ _)))))
  refine wpQuiet_nil ?_
  intro _ hw'
  obtain ⟨⟨dq, osq⟩, hw''⟩ := hw'
  subst hw''
  have xr := Ext.regrown w1 dq osq
  have hE := Lib.hid (x0.trans xr)
  have hcall := Lib.hid (hs.out _ hE.out (bl.out.ext xr) (xr.keep bn0'.out))
  clear b0 b1 b2 b3 b4 b5 b6 b7 b8 bn0 c7 d0 d1 x0 hs hfi bl bn0' xr
  generalize grow (redrawn w1 dq) osq = w2 at *
  go_wp2_with fail
  refine hcall.out.mono ?_
  rintro e w3 ⟨k, rfl, hk, x3⟩
  have hP := Lib.hid (hfin.out k hk)
  replace hE := Lib.hid (hE.out.trans x3)
  clear hk hfin x3 hcall
  go_wp2
  go_ret
  exact ⟨k, rfl, hP.out, hE.out⟩

set_option maxRecDepth 100000 in
set_option maxHeartbeats 16000000 in
theorem LC.rightSearch {F : Nat → Prop} {W : World} {y : Lv} {L : List It} {G : List I2} {t : HT} {ad : I2 → Nat} (h : LC F W y L G t ad) (hl : L.length ≤ 900) (x : It) (hx : knownX L x = true) (hr : (hgP L x).right = true) (nn : Nat) (d : Int) (vf : Value) (r : Bool) (hc : NC W nn x (vAd ad (hgP L x).on) r d vf)
    (fr bx bf bn : Nat) (hf : ((hgP L x).on = (0, 0) ∧ fr = 0) ∨ (∃ q, fr = q + 1 ∧ (ordL L)[q]? = some (hgP L x).on)) (w1 : World) (hE : Ext W w1) (b1 : BxL w1 bx y) (b2 : w1.cell? ⟨bf, 0, none⟩ = some (Vi (fr : Int))) (b3 : w1.cell? ⟨bn, 0, none⟩ = some (Vp nn)) {N : Nat} (hN : N = L.length - fr) :
    Calls Try.prog 83 #[Vi (N : Int), .func (.func 85) #[] #[.pointer (some ⟨bx, 0, none⟩), .pointer (some ⟨bf, 0, none⟩), .pointer (some ⟨bn, 0, none⟩)]] w1 fun e w' => (∃ k : Nat, e = .returned (Vi (k : Int)) ∧ (k ≤ 900 ∧ PlcOk L x (fr + k))) ∧ Ext w1 w' := by
  subst hN
  have hrt := hg_rt hx
  obtain ⟨on, hon'⟩ : ∃ on, (hgP L x).on = on := ⟨_, rfl⟩
  rw [hon'] at hc hf hrt
  have hlen := ord_len' h.nd.kn
  have hfl : fr ≤ L.length := by
    rcases hf with ⟨_, e⟩ | ⟨q, e, hq⟩
    · omega
    · have := lt_of_get hq; omega
  have hbef : ∀ j a, (ordL L)[fr + j]? = some a → on = (0, 0) ∨ ltP (pth L on) (pth L a) = true := by
    intro j a ha
    rcases hf with ⟨e, _⟩ | ⟨q, e, hq⟩
    · exact .inl e
    · exact .inr (ord_lt h.nd.kn hq ha (by omega))
  refine (search_any w1 85 #[.pointer (some ⟨bx, 0, none⟩), .pointer (some ⟨bf, 0, none⟩), .pointer (some ⟨bn, 0, none⟩)] (L.length - fr) (fun j => rtP L on x (fr + j)) (fun args w => by simp [go_sem]) (by omega)
    (fun w2 hw2 j hj => by
      obtain ⟨a, ha⟩ : ∃ a, (ordL L)[fr + j]? = some a := ⟨_, List.getElem?_eq_getElem (by omega)⟩
      simp only [rtP_at ha]
      exact rightC_any (h.ext (hE.trans hw2)) hl x bx bf bn nn on d vf r (b1.ext hw2) fr j (hw2.keep b2) (hw2.keep b3) (hc.ext (hE.trans hw2)) hrt ha)
    (fun i j hij hj hi => by
      obtain ⟨a, ha⟩ : ∃ a, (ordL L)[fr + i]? = some a := ⟨_, List.getElem?_eq_getElem (by omega)⟩
      obtain ⟨b, hb⟩ : ∃ b, (ordL L)[fr + j]? = some b := ⟨_, List.getElem?_eq_getElem (by omega)⟩
      simp only [rtP_at ha] at hi
      simp only [rtP_at hb]
      have e1 := right_predA h.nd.kn hx hr (ord_has h.nd.kn ha) (by rw [hon']; exact hbef _ _ ha)
      have e2 := right_predA h.nd.kn hx hr (ord_has h.nd.kn hb) (by rw [hon']; exact hbef _ _ hb)
      rw [hon'] at e1 e2
      rw [e1] at hi
      rw [e2]
      exact pred_mono h.nd.kn x ha hb (by omega) hi)).mono ?_
  rintro e w' ⟨k, rfl, ⟨h1, h2, h3⟩, hx'⟩
  refine ⟨⟨k, rfl, by omega, ?_⟩, hx'⟩
  refine right_place h.nd.kn hx hr (by omega) (by rw [hon']; exact hf) (fun j a hj ha => ?_) (fun j a hj ha => ?_)
  · have e1 := right_predA h.nd.kn hx hr (ord_has h.nd.kn ha) (by rw [hon']; exact hbef _ _ ha)
    rw [← e1, hon', ← rtP_at ha]
    exact h2 j hj
  · have e1 := right_predA h.nd.kn hx hr (ord_has h.nd.kn ha) (by rw [hon']; exact hbef _ _ ha)
    rw [← e1, hon', ← rtP_at ha]
    exact h3 j hj (by have := lt_of_get ha; omega)

set_option maxRecDepth 100000 in
set_option maxHeartbeats 16000000 in
theorem LC.rightPlace {F : Nat → Prop} {W : World} {y : Lv} {L : List It} {G : List I2} {t : HT} {ad : I2 → Nat} (h : LC F W y L G t ad) (hl : L.length ≤ 900) (x : It) (hx : knownX L x = true) (hr : (hgP L x).right = true) (nn : Nat) (d : Int) (vf : Value) (r : Bool) (hc : NC W nn x (vAd ad (hgP L x).on) r d vf) :
    Calls Try.prog 59 #[lsv y, Vp nn] W (PlS L x W) := by
  have hrt := hg_rt hx
  obtain ⟨on, hon'⟩ : ∃ on, (hgP L x).on = on := ⟨_, rfl⟩
  obtain ⟨o1, o2⟩ := on
  have hs := Lib.hid (fun fr bx bf bn hf w1 hE b1 b2 b3 N hN => h.rightSearch hl x hx hr nn d vf r hc fr bx bf bn hf w1 hE b1 b2 b3 (N := N) hN)
  have hlz := Lib.hid (ord_len' h.nd.kn)
  have hlen := Lib.hid (fun w' (hw : Ext W w') => (h.ext hw).lenI hl rfl)
  rw [hon'] at hc hrt hs
  have x0 : Ext W (((W.alloc (lbox y)).alloc (.cells #[Vp nn] 85)).alloc (.cells #[Vi 0] 3)) := (((Ext.refl W).alloc _).alloc _).alloc _
  have bl := ((BxL.new W y).ext ((Ext.refl _).alloc (.cells #[Vp nn] 85))).ext ((Ext.refl _).alloc (.cells #[Vi 0] 3))
  have bn0 : (((W.alloc (lbox y)).alloc (.cells #[Vp nn] 85)).alloc (.cells #[Vi 0] 3)).cell? ⟨W.heap.size + 1, 0, none⟩ = some (Vp nn) := by simp [go_sem]
  have bf0 : (((W.alloc (lbox y)).alloc (.cells #[Vp nn] 85)).alloc (.cells #[Vi 0] 3)).cell? ⟨W.heap.size + 1 + 1, 0, none⟩ = some (Vi 0) := by simp [go_sem]
  have ff0 : (((W.alloc (lbox y)).alloc (.cells #[Vp nn] 85)).alloc (.cells #[Vi 0] 3)).frozen? ⟨W.heap.size + 1 + 1, 0, none⟩ = false := by simp [go_sem]
  obtain ⟨po, hpo⟩ := vAd_ptr ad (o1, o2)
  have hc7 := hc.cells.c7
  replace hc7 := x0.keep hc7
  have hfi := Lib.hid (fun (hon : hasI L (o1, o2) = true) => by
    obtain ⟨q, hq⟩ := find_of_has (show hasE (entL L G) o1 o2 = true by rw [ent_has h.nd.kn]; exact hon)
    have hqo := ent_find G hq
    obtain ⟨xo, _, _, _, _, hid, _, _, _, _, _, hco⟩ := h.nd.get hon
    obtain ⟨d0, d1, _, _, _, _, _, _, _, _, _⟩ := hco.cells
    rw [show xo.c = o1 from congrArg Prod.fst hid] at d0
    rw [show xo.k = o2 from congrArg Prod.snd hid] at d1
    exact (⟨q, hqo, fun w' (hw : Ext W w') => (h.ext hw).findI hl hq, d0, d1, vAd_of h.nd.kn hon⟩ : ∃ q : Nat, (ordL L)[q]? = some (o1, o2) ∧ (∀ w', Ext W w' → Calls Try.prog 51 #[ixv (xl y), idv o1 o2] w' fun e w2 => e = .returned (.tuple #[Vi (q : Int), .bool true]) ∧ Ext w' w2) ∧ W.cell? ⟨ad (o1, o2), 0, none⟩ = some (Vu o1) ∧ W.cell? ⟨ad (o1, o2), 1, none⟩ = some (Vu o2) ∧ vAd ad (o1, o2) = Vp (ad (o1, o2))))
  have hbb : ∃ b : Bool, (∀ W, (binOp .neq 85 (.pointer po) (.pointer none)).run Try.prog W = .ok (.bool b) W) ∧ ((b = false ∧ (o1, o2) = ((0, 0) : I2)) ∨ (b = true ∧ hasI L (o1, o2) = true)) := by
    rcases hrt with e | e
    · refine ⟨false, fun W => ?_, .inl ⟨rfl, e⟩⟩
      rw [e, vAd_root] at hpo
      rw [← hpo]
      exact ptr_neq_nils W
    · refine ⟨true, fun W => ?_, .inr ⟨rfl, e⟩⟩
      rw [vAd_of h.nd.kn e] at hpo
      rw [← hpo]
      exact ptr_neq_nil _ W
  obtain ⟨b, hneq, hb⟩ := hbb
  have hpl : W.heap.size ≤ W.heap.size + 1 + 1 := by omega
  have hne1 : W.heap.size ≠ W.heap.size + 1 + 1 := by omega
  have hne2 : W.heap.size + 1 ≠ W.heap.size + 1 + 1 := by omega
  have hxs : W.heap.size + 1 + 1 + 1 = (((W.alloc (lbox y)).alloc (.cells #[Vp nn] 85)).alloc (.cells #[Vi 0] 3)).heap.size := by simp
  rw [hpo] at hc7
  have hpo' := Lib.hid hpo
  have hnl := (hc.cells.c7)
  have hnlt := World.block_lt_of_cell? _ _ hnl
  simp only at hnlt
  clear h hc hx hr hrt hpo hnl
  go_enter Try.func59, Try.ntmps59
  go_upto_if 12 with fail
  generalize ((W.alloc (lbox y)).alloc (.cells #[Vp nn] 85)).alloc (.cells #[Vi 0] 3) = w1 at *
  obtain ⟨pb, hpb⟩ : ∃ pb, W.heap.size = pb := ⟨_, rfl⟩
  obtain ⟨pn, hpn⟩ : ∃ pn, pb + 1 = pn := ⟨_, rfl⟩
  obtain ⟨pf, hpf⟩ : ∃ pf, pn + 1 = pf := ⟨_, rfl⟩
  have hplz := Lib.hid (show W.heap.size ≤ pf by omega)
  rw [hpb] at bl bn0 bf0 ff0 hne1 hne2 hxs hnlt ⊢
  rw [hpn] at bn0 bf0 ff0 hne1 hne2 hxs ⊢
  rw [hpf] at bf0 ff0 hne1 hne2 hxs ⊢
  have hnf : nn ≠ pf := by omega
  clear hpl hpb hpn hpf hxs hnlt
  replace bl := Lib.hid bl
  replace hs := Lib.hid (fun fr => hs.out fr pb pf pn)
  go_cut [6] (fun s wx => ∃ fr : Nat, fr ≤ 900 ∧ Hid (((o1, o2) = ((0, 0) : I2) ∧ fr = 0) ∨ (∃ q, fr = q + 1 ∧ (ordL L)[q]? = some (o1, o2))) ∧ wx.cell? ⟨pf, 0, none⟩ = some (Vi (fr : Int)) ∧ Hid (BxL wx pb y) ∧ wx.cell? ⟨pn, 0, none⟩ = some (Vp nn) ∧ Hid (Ext W wx))
  case first =>
    rcases hb with ⟨rfl, hroot⟩ | ⟨rfl, hon⟩
    · replace x0 := Lib.hid x0
      have hroot' := Lib.hid hroot
      clear hroot hs hfi
      go_wp2_with fail
      go_meet
      exact ⟨0, by omega, Lib.hid (.inl ⟨hroot'.out, rfl⟩), bf0, bl, bn0, x0⟩
    · obtain ⟨q, hqo, hfd, d0, d1, hadp⟩ := hfi.out hon
      have hq9 : q < 900 := by have := lt_of_get hqo; have := hlz.out; omega
      rw [hpo'.out] at hadp
      injection hadp with hadp
      subst hadp
      replace d0 := x0.keep d0
      replace d1 := x0.keep d1
      obtain ⟨b0, b1, b2, b3, b4, b5, b6, b7, b8⟩ := bl.out.cells
      have bn0' := Lib.hid bn0
      have bf0' := Lib.hid bf0
      have ff0' := Lib.hid ff0
      replace hqo := Lib.hid hqo
      replace hfd := Lib.hid hfd
      clear hs hfi hon hneq bf0 ff0
      generalize ad (o1, o2) = pd at *
      replace b0 := cell_regrown b0
      replace b1 := cell_regrown b1
      replace b2 := cell_regrown b2
      replace b3 := cell_regrown b3
      replace b4 := cell_regrown b4
      replace b5 := cell_regrown b5
      replace b6 := cell_regrown b6
      replace b7 := cell_regrown b7
      replace b8 := cell_regrown b8
      replace bn0 := cell_regrown bn0
      replace hc7 := cell_regrown hc7
      replace d0 := cell_regrown d0
      replace d1 := cell_regrown d1
      go_wp2_with fail
      refine wp_region_quiet_below (by kernel_rfl) (by kernel_rfl) ?_
      repeat go_big_quiet_step ((with_reducible exact Calls.in_regrown (hfd.out _ (x0.trans (Ext.regrown _ _ _)))))
      refine wpQuiet_nil ?_
      intro _ hw'
      obtain ⟨⟨dq, osq⟩, hw''⟩ := hw'
      subst hw''
      have xr := Ext.regrown w1 dq osq
      have hE := Lib.hid (x0.trans xr)
      have bf1 := xr.keep bf0'.out
      have ff1 := xr.thaw bf0'.out ff0'.out
      have bl1 := bl.out.ext xr
      have bn1 := xr.keep bn0'.out
      clear b0 b1 b2 b3 b4 b5 b6 b7 b8 bn0 hc7 d0 d1 x0 hfd bl bn0' bf0' ff0' xr
      generalize grow (redrawn w1 dq) osq = w2 at *
      have hrx : RX pf w2 (w2.setCell ⟨pf, 0, none⟩ (Vi ((q : Int) + 1))) := (RX.refl pf w2).set 0 _ (.inr rfl)
      have hend := Lib.hid (show (w2.setCell ⟨pf, 0, none⟩ (Vi ((q : Int) + 1))).cell? ⟨pf, 0, none⟩ = some (Vi ((q + 1 : Nat) : Int)) ∧ BxL (w2.setCell ⟨pf, 0, none⟩ (Vi ((q : Int) + 1))) pb y ∧ (w2.setCell ⟨pf, 0, none⟩ (Vi ((q : Int) + 1))).cell? ⟨pn, 0, none⟩ = some (Vp nn) ∧ Ext W (w2.setCell ⟨pf, 0, none⟩ (Vi ((q : Int) + 1))) from
        ⟨by simp [go_sem, bf1], hrx.blk bl1 hne1, hrx.cell bn1 hne2, hE.out.setCell hplz.out _⟩)
      clear hrx bl1 bn1
      go_wp2_with fail
      go_meet
      obtain ⟨e1, e2, e3, e4⟩ := hend.out
      exact ⟨q + 1, by omega, Lib.hid (.inr ⟨q, rfl, hqo.out⟩), e1, Lib.hid e2, e3, Lib.hid e4⟩
  case rest =>
    obtain ⟨fr, hfr, hf, cf, bl, cn, hE⟩ := hcut
    clear x0 bn0 bf0 ff0 hb hneq hc7 hfi
    have hfl : fr ≤ L.length := by
      rcases hf.out with ⟨_, e⟩ | ⟨q, e, hq⟩
      · omega
      · have := lt_of_get hq; have := hlz.out; omega
    have hcs := Lib.hid (fun w' (hw : Ext wc w') => hs.out fr hf.out w' (hE.out.trans hw) (bl.out.ext hw) (hw.keep cf) (hw.keep cn) (N := L.length - fr) rfl)
    have hcl := Lib.hid (fun w' (hw : Ext wc w') => hlen.out w' (hE.out.trans hw))
    obtain ⟨b0, b1, b2, b3, b4, b5, b6, b7, b8⟩ := bl.out.cells
    have hwN : IntKind.i64.wrap ((L.length : Int) - (fr : Int)) = ((L.length - fr : Nat) : Int) := by rw [IntWalk.i64_in _ (by omega)]; omega
    obtain ⟨N, hN⟩ : ∃ N, L.length - fr = N := ⟨_, rfl⟩
    obtain ⟨n, hn⟩ : ∃ n, L.length = n := ⟨_, rfl⟩
    rw [hN] at hcs hwN
    rw [hn] at hcl hwN
    replace hwN := Lib.hid hwN
    clear hs hlen hN hn hfl bl
    go_wp2_with fail
    refine wp_soft_frame Ext 8 (hrpTab y L x pb pn pf fr n N) (by kernel_rfl) (by kernel_rfl) (fun _ _ _ => Ext.trans) ((Ext.refl _).drew) rfl (by show List.Nodup [29, 30, 31, 32, 33, 34, 35, 36]; decide) (by show ∀ d ∈ [29, 30, 31, 32, 33, 34, 35, 36], d < 38; decide) (hrpTab_mono y L x pb pn pf fr n N Ext (fun _ _ h => h)) ?_ ⟨?_, ?_, ?_, ?_, ?_, ?_, ?_, ?_, trivial⟩
    · intro W vs hT hR
      match vs, hT with
      | [v0, v1, v2, v3, v4, v5, v6, v7], ⟨e0, e1, e2, e3, e4, e5, e6, e7, _⟩ =>
        simp only [hrpTab, List.map_cons, List.map_nil, List.zip_cons_cons, List.zip_nil_left, putAll, List.setIfInBounds_toArray, List.set_cons_zero, List.set_cons_succ, List.drop_succ_cons, List.drop_zero]
        simp only at e0 e1 e2 e3 e4 e5 e6
        obtain ⟨q7, e7, h7⟩ := e7
        rw [e0, e1, e2, e3, e4, e5, e6, e7]
        clear e0 e1 e2 e3 e4 e5 e6 e7 v0 v1 v2 v3 v4 v5 v6 v7
        obtain ⟨hk9, hP⟩ := h7
        replace hP := Lib.hid hP
        have hE2 := Lib.hid (hE.out.trans hR)
        clear hcs hcl b0 b1 b2 b3 b4 b5 b6 b7 b8 cf cn
        go_wp2
        go_ret
        exact ⟨fr + q7, by simp, hP.out, hE2.out⟩
    · refine softR_val 29 _ (by kernel_rfl) rfl rfl ?_
      intro a W hx hout hdep
      have ev5 : a.tmps[5]?.getD undef = .pointer (some ⟨pf, 0, none⟩) := by rw [← Array.getD_eq_getD_getElem?]; exact hout 5 (by show 5 ∉ [29, 30, 31, 32, 33, 34, 35, 36]; decide)
      have q0 := hx.keep cf
      refine ⟨rfl, Vi (fr : Int), W, ?_, rfl, Ext.refl _⟩
      simp [ev5, q0, execOp, go_sem]
    · refine softR_val 30 _ (by kernel_rfl) rfl rfl ?_
      intro a W hx hout hdep
      have ev2 : a.tmps[2]?.getD undef = .pointer (some ⟨pb, 0, none⟩) := by rw [← Array.getD_eq_getD_getElem?]; exact hout 2 (by show 2 ∉ [29, 30, 31, 32, 33, 34, 35, 36]; decide)
      refine ⟨rfl, .pointer (some ⟨pb, 0, none⟩), W, ?_, rfl, Ext.refl _⟩
      simp [ev2, execOp, go_sem]
    · refine softR_val 31 _ (by kernel_rfl) rfl rfl ?_
      intro a W hx hout hdep
      have ev30 : a.tmps[30]?.getD undef = .pointer (some ⟨pb, 0, none⟩) := by rw [← Array.getD_eq_getD_getElem?]; exact (hdep ⟨1, .data⟩ (by simp) rfl 30 _ rfl).1
      have q0 := hx.keep b0
      have q1 := hx.keep b1
      have q2 := hx.keep b2
      have q3 := hx.keep b3
      have q4 := hx.keep b4
      have q5 := hx.keep b5
      have q6 := hx.keep b6
      have q7 := hx.keep b7
      refine ⟨rfl, ixv (xl y), W, ?_, rfl, Ext.refl _⟩
      simp [ev30, q0, q1, q2, q3, q4, q5, q6, q7, execOp, go_sem]
    · refine softR_call 32 _ (by kernel_rfl) rfl rfl ?_
      intro a W hx hout hdep
      have ev31 : a.tmps[31]?.getD undef = ixv (xl y) := by rw [← Array.getD_eq_getD_getElem?]; exact (hdep ⟨2, .data⟩ (by simp) rfl 31 _ rfl).1
      refine ⟨rfl, 84, #[ixv (xl y)], ?_, ?_⟩
      · simp [ev31, execOp, go_sem]
      · exact (hcl.out W hx).mono fun e W1 h => ⟨_, h.1, rfl, h.2⟩
    · refine softR_val 33 _ (by kernel_rfl) rfl rfl ?_
      intro a W hx hout hdep
      have ev5 : a.tmps[5]?.getD undef = .pointer (some ⟨pf, 0, none⟩) := by rw [← Array.getD_eq_getD_getElem?]; exact hout 5 (by show 5 ∉ [29, 30, 31, 32, 33, 34, 35, 36]; decide)
      have q0 := hx.keep cf
      refine ⟨rfl, Vi (fr : Int), W, ?_, rfl, Ext.refl _⟩
      simp [ev5, q0, execOp, go_sem]
    · refine softR_val 34 _ (by kernel_rfl) rfl rfl ?_
      intro a W hx hout hdep
      have ev32 : a.tmps[32]?.getD undef = Vi (n : Int) := by rw [← Array.getD_eq_getD_getElem?]; exact (hdep ⟨3, .data⟩ (by simp) rfl 32 _ rfl).1
      have ev33 : a.tmps[33]?.getD undef = Vi (fr : Int) := by rw [← Array.getD_eq_getD_getElem?]; exact (hdep ⟨4, .data⟩ (by simp) rfl 33 _ rfl).1
      have hw5 := hwN.out
      refine ⟨rfl, Vi (N : Int), W, ?_, rfl, Ext.refl _⟩
      simp [ev32, ev33, hw5, execOp, go_sem]
    · refine softR_val 35 _ (by kernel_rfl) rfl rfl ?_
      intro a W hx hout hdep
      have ev2 : a.tmps[2]?.getD undef = .pointer (some ⟨pb, 0, none⟩) := by rw [← Array.getD_eq_getD_getElem?]; exact hout 2 (by show 2 ∉ [29, 30, 31, 32, 33, 34, 35, 36]; decide)
      have ev5 : a.tmps[5]?.getD undef = .pointer (some ⟨pf, 0, none⟩) := by rw [← Array.getD_eq_getD_getElem?]; exact hout 5 (by show 5 ∉ [29, 30, 31, 32, 33, 34, 35, 36]; decide)
      have ev3 : a.tmps[3]?.getD undef = .pointer (some ⟨pn, 0, none⟩) := by rw [← Array.getD_eq_getD_getElem?]; exact hout 3 (by show 3 ∉ [29, 30, 31, 32, 33, 34, 35, 36]; decide)
      refine ⟨rfl, .func (.func 85) #[] #[.pointer (some ⟨pb, 0, none⟩), .pointer (some ⟨pf, 0, none⟩), .pointer (some ⟨pn, 0, none⟩)], W, ?_, rfl, Ext.refl _⟩
      simp [ev2, ev5, ev3, execOp, go_sem]
    · refine softR_call 36 _ (by kernel_rfl) rfl rfl ?_
      intro a W hx hout hdep
      have ev34 : a.tmps[34]?.getD undef = Vi (N : Int) := by rw [← Array.getD_eq_getD_getElem?]; exact (hdep ⟨5, .data⟩ (by simp) rfl 34 _ rfl).1
      have ev35 : a.tmps[35]?.getD undef = .func (.func 85) #[] #[.pointer (some ⟨pb, 0, none⟩), .pointer (some ⟨pf, 0, none⟩), .pointer (some ⟨pn, 0, none⟩)] := by rw [← Array.getD_eq_getD_getElem?]; exact (hdep ⟨6, .data⟩ (by simp) rfl 35 _ rfl).1
      refine ⟨rfl, 83, #[Vi (N : Int), .func (.func 85) #[] #[.pointer (some ⟨pb, 0, none⟩), .pointer (some ⟨pf, 0, none⟩), .pointer (some ⟨pn, 0, none⟩)]], ?_, ?_⟩
      · simp [ev34, ev35, execOp, go_sem]
      · exact (hcs.out W hx).mono (by rintro e W1 ⟨⟨k, rfl, h1⟩, h2⟩; exact ⟨_, rfl, ⟨k, rfl, h1⟩, h2⟩)

end Go.Proofs.Ytmpomammieenjaa

namespace Go.Proofs.Ytmpomammieenjaa
open Go.ChangeShapes Go.WideShapes Go.ChangeAt Go.RowKit Go.Sort
set_option linter.unusedVariables false
set_option linter.unusedSimpArgs false

def MapS (w : World) (b : Nat) (l : List (I2 × Value)) : Prop := ∃ es clk, w.heap[b]? = some (.map es clk) ∧ es.toList.map (fun e => (e.key, e.val)) = l.map fun p => (idv p.1.1 p.1.2, p.2)
def lkp : List (I2 × Value) → I2 → Option Value
  | [], _ => none
  | p :: r, a => if p.1 = a then some p.2 else lkp r a

theorem MapS.lt {w : World} {b : Nat} {l : List (I2 × Value)} (h : MapS w b l) : b < w.heap.size := by
  obtain ⟨es, clk, hb, _⟩ := h
  exact (Array.getElem?_eq_some_iff.1 hb).1
theorem MapS.kept {w w' : World} {b : Nat} {l : List (I2 × Value)} {row : Option Nat} (h : MapS w b l) (hg : w.grownBy w' row) (hne : some b ≠ row) : MapS w' b l := by
  have hlt := h.lt
  obtain ⟨es, clk, hb, hl⟩ := h
  exact ⟨es, clk, (hg.block b hlt hne).trans hb, hl⟩
theorem MapS.ext {w w' : World} {b : Nat} {l : List (I2 × Value)} (h : MapS w b l) (hx : Ext w w') : MapS w' b l := by
  have hlt := h.lt
  obtain ⟨es, clk, hb, hl⟩ := h
  exact ⟨es, clk, (RowKit.Below.block hx b hlt).trans hb, hl⟩
theorem MapS.made (w : World) : MapS (w.alloc (.map #[] 0)) w.heap.size [] := ⟨#[], 0, (MapKept.heap_alloc w _).1, rfl⟩

theorem id_equal (a b c d : Int) (W : World) : (Op.equal 41 (.agg #[.int .u32 a, .int .u32 b]) (.agg #[.int .u32 c, .int .u32 d])).run Try.prog W = .ok (decide (a = c ∧ b = d)) W := by
  show (Op.equalIn 10000 41 (.agg #[.int .u32 a, .int .u32 b]) (.agg #[.int .u32 c, .int .u32 d])).run Try.prog W = _
  by_cases h1 : a = c
  · by_cases h2 : b = d
    · subst h1; subst h2; simp [go_sem]
    · have : (b == d) = false := by simpa using h2
      subst h1
      simp [go_sem, this, h2]
  · have : (a == c) = false := by simpa using h1
    simp [go_sem, this, h1]

theorem asking_is (a b : Int) (W : World) : ∀ (es : List MapEntry) (l : List (I2 × Value)) (i : Nat), es.map (fun e => (e.key, e.val)) = l.map (fun p => (idv p.1.1 p.1.2, p.2)) →
    ∃ r, (Instr.findAsking 41 (idv a b) es i).run Try.prog W = .ok r W ∧ r.map (·.2) = lkp l (a, b)
  | [], [], i, _ => ⟨none, rfl, rfl⟩
  | [], p :: l, i, h => by simp at h
  | e :: es, [], i, h => by simp at h
  | e :: es, p :: l, i, h => by
    obtain ⟨⟨c, d⟩, v⟩ := p
    simp only [List.map_cons, List.cons.injEq, Prod.mk.injEq] at h
    obtain ⟨⟨h1, h2⟩, h3⟩ := h
    by_cases hs : c = a ∧ d = b
    · obtain ⟨rfl, rfl⟩ := hs
      refine ⟨some (i, e.val), ?_, by simp [lkp, h2]⟩
      unfold Instr.findAsking
      simp [h1, id_equal, Result.andThen]
    · have hd : decide (a = c ∧ b = d) = false := decide_eq_false (fun e => hs ⟨e.1.symm, e.2.symm⟩)
      obtain ⟨r, hr, hv⟩ := asking_is a b W es l (i + 1) h3
      refine ⟨r, ?_, ?_⟩
      · unfold Instr.findAsking
        simp only [Sem.run_bind, h1, id_equal, hd, Result.andThen_ok]
        simpa using hr
      · unfold lkp
        rw [if_neg (fun e => hs (by injection e with e1 e2; exact ⟨e1, e2⟩))]
        exact hv

theorem find_is (a b : Int) (W : World) (es : List MapEntry) (l : List (I2 × Value)) (h : es.map (fun e => (e.key, e.val)) = l.map (fun p => (idv p.1.1 p.1.2, p.2))) :
    ∃ r, (Instr.findKey 41 (idv a b) es).run Try.prog W = .ok r W ∧ r.map (·.2) = lkp l (a, b) := by
  obtain ⟨r, hr, hv⟩ := asking_is a b W es l 0 h
  refine ⟨r, ?_, hv⟩
  unfold Instr.findKey
  simp only [Sem.run_bind, run_underlying Try.underlying41, Result.andThen_ok]
  cases es with
  | nil => simpa [Instr.findNow, Instr.findAsking] using hr
  | cons e es => simpa [Instr.findNow, Instr.sameNow] using hr

theorem id_check (em : Bool) (a b : Int) (W : World) : (Instr.checkKey em 10000 41 (idv a b)).run Try.prog W = .ok () W := by
  have hu : ∀ W : World, (Instr.checkKey em 9999 39 (.int .u32 a)).run Try.prog W = .ok () W := fun W => by
    show (Instr.checkKey em (9998 + 1) _ _).run Try.prog W = _
    unfold Instr.checkKey
    simp only [Sem.run_bind, run_underlying Try.underlying39, Result.andThen_ok]
    rfl
  have hv : ∀ W : World, (Instr.checkKey em 9999 39 (.int .u32 b)).run Try.prog W = .ok () W := fun W => by
    show (Instr.checkKey em (9998 + 1) _ _).run Try.prog W = _
    unfold Instr.checkKey
    simp only [Sem.run_bind, run_underlying Try.underlying39, Result.andThen_ok]
    rfl
  show (Instr.checkKey em (9999 + 1) _ _).run Try.prog W = _
  unfold Instr.checkKey
  simp [run_underlying Try.underlying41, go_sem, hu, hv]

theorem MapS.look {w : World} {b : Nat} {l : List (I2 × Value)} (h : MapS w b l) {T E : TypeId} (ht : Try.prog.underlying T = some (.map 41 E)) (a : I2) (z : Value) (hz : (zeroValue E).run Try.prog w = .ok z w) :
    (Instr.lookup T (.map (some b)) (.agg #[.int .u32 a.1, .int .u32 a.2]) false).run Try.prog w = .ok ((lkp l a).getD z) w := by
  obtain ⟨es, clk, hb, hl⟩ := h
  obtain ⟨r, hr, hv⟩ := find_is a.1 a.2 w es.toList l hl
  have hc := id_check es.isEmpty a.1 a.2 w
  rw [← hv]
  cases r with
  | none => simp [Instr.lookup, run_underlying ht, MapKept.run_getObj_map hb, hc, hr, hz, Result.andThen]
  | some r => simp [Instr.lookup, run_underlying ht, MapKept.run_getObj_map hb, hc, hr, Result.andThen]
theorem MapS.store {w : World} {b : Nat} {l : List (I2 × Value)} (h : MapS w b l) {T E : TypeId} (ht : Try.prog.underlying T = some (.map 41 E)) (a : I2) (v : Value) (hn : lkp l a = none) :
    ∃ w', (Instr.mapUpdate T (.map (some b)) (.agg #[.int .u32 a.1, .int .u32 a.2]) v).run Try.prog w = .ok () w' ∧ MapS w' b (l ++ [(a, v)]) ∧ w.grownBy w' (some b) := by
  obtain ⟨es, clk, hb, hl⟩ := h
  obtain ⟨r, hr, hv⟩ := find_is a.1 a.2 w es.toList l hl
  rw [hn] at hv
  cases r with
  | some r => cases hv
  | none =>
    have hc := id_check false a.1 a.2 w
    refine ⟨ChangeMaps.setBlock w b (.map (es.push ⟨idv a.1 a.2, v, clk⟩) (clk + 1)), by simp [Instr.mapUpdate, run_underlying ht, MapKept.run_getObj_map hb, hc, hr, MapKept.run_setObj_map _ hb, Result.andThen, ChangeMaps.setBlock], ⟨_, _, ChangeMaps.heap_setBlock_same hb _, ?_⟩, ⟨rfl, rfl, rfl, by simp [ChangeMaps.setBlock], fun i _ hi => ChangeMaps.heap_setBlock_other hb _ (fun e => hi (by rw [e]))⟩⟩
    simp [hl]

theorem make_map {T E : TypeId} (ht : Try.prog.underlying T = some (.map 41 E)) (n : Int) (W : World) : (Instr.makeMap T (some (.int .i64 n))).run Try.prog W = .ok (.map (some W.heap.size)) (W.alloc (.map #[] 0)) := by
  unfold Instr.makeMap
  simp [run_underlying ht, asInt, newObj, go_sem, Result.andThen]
  rfl
theorem wpList_store_map (w : World) {ops : Array Oper} {rest : List Oper} {o : Oper} {x : Act} {Q : Exit → Act → World → Prop} (hg : o.guard = none) (m k v : Operand) (T E : TypeId) (hop : o.op = Op.mapUpdate T m k v)
    (ht : Try.prog.underlying T = some (.map 41 E)) (b : Nat) (l : List (I2 × Value)) (hm : x.eval m = .map (some b)) (h : MapS w b l) (a c : Int) (val : Value) (hk : x.eval k = .agg #[.int .u32 a, .int .u32 c]) (hv : x.eval v = val) (hn : lkp l (a, c) = none)
    (hK : ∀ w', MapS w' b (l ++ [((a, c), val)]) → w.grownBy w' (some b) → wpList Try.prog ops Q rest (x.put o.dst undef) w') : wpList Try.prog ops Q (o :: rest) x w := by
  refine wpList_plain hg fun K' hK' => ?_
  obtain ⟨w', hrun, r1, r2⟩ := h.store ht (a, c) val hn
  unfold Oper.wp
  simp [execOp, hop, hm, hk, hv, hrun, Result.andThen]
  exact hK' _ _ (hK w' r1 r2)

end Go.Proofs.Ytmpomammieenjaa

namespace Go.Proofs.Ytmpomammieenjaa
open Go.ChangeShapes Go.WideShapes Go.ChangeAt Go.RowKit Go.Sort
set_option linter.unusedVariables false
set_option linter.unusedSimpArgs false
attribute [local go_sem] World.cell?_alloc_some

def encN (x : Nd) : List Value := [Vu x.id.1, Vu x.id.2, Vi (x.on : Int), .bool x.right, Vi (x.depth : Int), Vi (x.far : Int)]
abbrev ndv (a b : Int) (on : Int) (r : Bool) (dp far : Int) : Value := .agg #[.int .u32 a, .int .u32 b, .int .i64 on, .bool r, .int .i64 dp, .int .i64 far]
theorem encN_len (p : Nd) : (encN p).length = 6 := rfl
theorem encN_one (p : Nd) : ∀ u ∈ encN p, u.oneCell' = true := by intro u hu; simp [encN] at hu; rcases hu with rfl | rfl | rfl | rfl | rfl | rfl <;> rfl
theorem infoN : (Try.prog.info? 154).map (fun i => (i.zero, i.size, i.bytes)) = some (some (.agg #[.int .u32 0, .int .u32 0, .int .i64 0, .bool false, .int .i64 0, .int .i64 0]), 6, 40) := by kernel_rfl
def NdS (w : World) (A : Option Addr) (l : List Nd) : Prop := Row w A (flat encN l)
theorem NdS.ext {w w' : World} {A : Option Addr} {l : List Nd} (h : NdS w A l) (hx : Ext w w') : NdS w' A l := Row.ext h hx
structure NdC (w : World) (b o : Nat) (x : Nd) : Prop where
  c0 : w.cell? ⟨b, o, none⟩ = some (Vu x.id.1)
  c1 : w.cell? ⟨b, o + 1, none⟩ = some (Vu x.id.2)
  c2 : w.cell? ⟨b, o + 2, none⟩ = some (Vi (x.on : Int))
  c3 : w.cell? ⟨b, o + 3, none⟩ = some (.bool x.right)
  c4 : w.cell? ⟨b, o + 4, none⟩ = some (Vi (x.depth : Int))
  c5 : w.cell? ⟨b, o + 5, none⟩ = some (Vi (x.far : Int))
theorem NdC.ext {w w' : World} {b o : Nat} {x : Nd} (h : NdC w b o x) (hx : Ext w w') : NdC w' b o x := ⟨hx.keep h.c0, hx.keep h.c1, hx.keep h.c2, hx.keep h.c3, hx.keep h.c4, hx.keep h.c5⟩
theorem NdS.at {w : World} {b o : Nat} {l : List Nd} (h : NdS w (some ⟨b, o, none⟩) l) {k : Nat} {x : Nd} (hp : l[k]? = some x) : NdC w b (o + k * 6) x := by
  obtain ⟨b', o', e, hc⟩ := Row.at h encN_len hp (by omega)
  injection e with e
  injection e with e1 e2 e3
  subst e1
  subst e2
  exact ⟨hc 0 _ rfl, hc 1 _ rfl, hc 2 _ rfl, hc 3 _ rfl, hc 4 _ rfl, hc 5 _ rfl⟩
theorem NdS.place {w : World} {A : Option Addr} {l : List Nd} (h : NdS w A l) (h0 : 0 < l.length) : ∃ b o, A = some ⟨b, o, none⟩ := by
  obtain ⟨b, o, e, _⟩ := h (by rw [flat_len encN_len]; omega)
  exact ⟨b, o, e⟩
theorem NdS.new (w : World) (x : Nd) : NdS (w.alloc (.cells #[.int .u32 x.id.1, .int .u32 x.id.2, .int .i64 x.on, .bool x.right, .int .i64 x.depth, .int .i64 x.far] 154)) (some ⟨w.heap.size, 0, none⟩) [x] := Row.new w #[.int .u32 x.id.1, .int .u32 x.id.2, .int .i64 x.on, .bool x.right, .int .i64 x.depth, .int .i64 x.far] 154
def OwnN (w W : World) (v : Value) (l : List Nd) : Prop := OwnG 154 6 w W v l.length (flat encN l)
theorem OwnN.ext {w W W' : World} {v : Value} {l : List Nd} (h : OwnN w W v l) (hx : Ext W W') : OwnN w W' v l := OwnG.ext h hx
theorem OwnN.down {w0 w W : World} {v : Value} {l : List Nd} (h : OwnN w W v l) (hx : Ext w0 w) : OwnN w0 W v l := OwnG.down h hx
theorem OwnN.lt {w W : World} {v : Value} {l : List Nd} (h : OwnN w W v l) : ∀ k, v.ownBlock = some k → w.heap.size ≤ k ∧ k < W.heap.size := World.ownsRow.lt h
theorem OwnN.open {w W : World} {v : Value} {l : List Nd} (h : OwnN w W v l) : ∃ A c, v = .slice A l.length c ∧ l.length ≤ c ∧ NdS W A l := by
  obtain ⟨A, c, rfl, hc⟩ := OwnG.form h
  exact ⟨A, c, rfl, hc, OwnG.row h⟩
theorem OwnN.kept {w W W' : World} {v : Value} {l : List Nd} {row : Option Nat} (h : OwnN w W v l) (hg : W.grownBy W' row) (hn : v.ownBlock = none ∨ v.ownBlock ≠ row) : OwnN w W' v l := World.ownsRow.kept h hg hn

def numG (k : Nat) : List It → List (I2 × Value)
  | [] => []
  | x :: l => (iid x, .int .i64 (k : Int)) :: numG (k + 1) l
def numM (l : List It) : List (I2 × Value) := numG 1 l
theorem numG_snoc (x : It) : ∀ (l : List It) (k : Nat), numG k (l ++ [x]) = numG k l ++ [(iid x, .int .i64 ((k + l.length : Nat) : Int))]
  | [], k => by simp [numG]
  | y :: l, k => by
    rw [List.cons_append, numG, numG, numG_snoc x l, List.cons_append, List.length_cons, show k + 1 + l.length = k + (l.length + 1) by omega]
theorem numM_snoc (l : List It) (x : It) : numM (l ++ [x]) = numM l ++ [((x.c, x.k), .int .i64 ((l.length + 1 : Nat) : Int))] := by
  unfold numM
  rw [numG_snoc, Nat.add_comm]; rfl
theorem numG_lkp (a : I2) : ∀ (l : List It) (k : Nat), lkp (numG k l) a = (fnd l a).map fun i => .int .i64 ((k + i : Nat) : Int)
  | [], k => rfl
  | y :: l, k => by
    rw [numG, lkp, fnd, numG_lkp a l]
    by_cases h : iid y = a
    · simp [h]
    · simp only [h, if_false]
      cases fnd l a with
      | none => rfl
      | some i => simp only [Option.map_some, show k + 1 + i = k + (i + 1) by omega]
theorem numM_get (l : List It) (a : I2) : (lkp (numM l) a).getD (.int .i64 0) = .int .i64 (numI l a : Int) := by
  unfold numM numI
  rw [numG_lkp]
  cases fnd l a with
  | none => rfl
  | some i => simp only [Option.map_some, Option.getD_some, Nat.add_comm]
theorem numM_none {l : List It} {a : I2} (h : hasI l a = false) : lkp (numM l) a = none := by
  unfold numM
  rw [numG_lkp, fnd_none.2 h]; rfl
theorem zeroI (w : World) : (zeroValue 3).run Try.prog w = .ok (.int .i64 0) w := by kernel_rfl
theorem MapS.num {w : World} {b : Nat} {l : List It} (h : MapS w b (numM l)) (a c : Int) : (Instr.lookup 149 (.map (some b)) (.agg #[.int .u32 a, .int .u32 c]) false).run Try.prog w = .ok (.int .i64 (numI l (a, c) : Int)) w := by
  have := h.look Try.underlying149 (a, c) (.int .i64 0) (zeroI w)
  rw [numM_get] at this
  exact this

structure GrS (W : World) (g : Nat) (l : List It) (ns : List Nd) : Prop where
  ok : GrN l ns
  kn : knownI l = true
  cells : ∃ b o cap mb, W.cell? ⟨g, 0, none⟩ = some (.slice (some ⟨b, o, none⟩) (l.length + 1) cap) ∧ W.cell? ⟨g, 1, none⟩ = some (.map (some mb)) ∧ l.length + 1 ≤ cap ∧ NdS W (some ⟨b, o, none⟩) ns ∧ MapS W mb (numM l)
theorem GrS.ext {W W' : World} {g : Nat} {l : List It} {ns : List Nd} (h : GrS W g l ns) (hx : Ext W W') : GrS W' g l ns := by
  obtain ⟨b, o, cap, mb, h1, h2, h3, h4, h5⟩ := h.cells
  exact ⟨h.ok, h.kn, b, o, cap, mb, hx.keep h1, hx.keep h2, h3, h4.ext hx, h5.ext hx⟩

structure GrT (W : World) (g : Nat) (l : List It) (ns : List Nd) : Prop where
  ok : GrN l ns
  kn : knownI l = true
  cells : ∃ b o cap, W.cell? ⟨g, 0, none⟩ = some (.slice (some ⟨b, o, none⟩) (l.length + 1) cap) ∧ l.length + 1 ≤ cap ∧ NdS W (some ⟨b, o, none⟩) ns
theorem GrS.nodes {W : World} {g : Nat} {l : List It} {ns : List Nd} (h : GrS W g l ns) : GrT W g l ns := by
  obtain ⟨b, o, cap, mb, h1, h2, h3, h4, h5⟩ := h.cells
  exact ⟨h.ok, h.kn, b, o, cap, h1, h3, h4⟩
theorem GrT.ext {W W' : World} {g : Nat} {l : List It} {ns : List Nd} (h : GrT W g l ns) (hx : Ext W W') : GrT W' g l ns := by
  obtain ⟨b, o, cap, h1, h3, h4⟩ := h.cells
  exact ⟨h.ok, h.kn, b, o, cap, hx.keep h1, h3, h4.ext hx⟩

theorem take_pre {P q : Pth} {d : Nat} (h : d ≤ P.length) : (P ++ q).take d = P.take d := by
  rw [List.take_append, show d - P.length = 0 by omega, List.take_zero, List.append_nil]

set_option maxRecDepth 100000 in
set_option maxHeartbeats 4000000 in
theorem upTo_any (g : Nat) (l : List It) (ns : List Nd) (n d : Nat) (w : World) (h : GrS w g l ns) (hn : n ≤ l.length) (hd : d ≤ (pthN l n).length) (hb : l.length ≤ 1000000000000000) :
    Calls Try.prog 99 #[.pointer (some ⟨g, 0, none⟩), Vi (n : Int), Vi (d : Int)] w fun e w' => ∃ m : Nat, e = .returned (Vi (m : Int)) ∧ m ≤ l.length ∧ pthN l m = (pthN l n).take d ∧ Ext w w' := by
  obtain ⟨b, o, cap, mb, g0, g1, hcap, hN, hM⟩ := h.cells
  have hok := Lib.hid h.ok
  replace hN := Lib.hid hN
  have hd0 := Lib.hid hd
  obtain ⟨N, hNn⟩ : ∃ N, l.length + 1 = N := ⟨_, rfl⟩
  rw [hNn] at g0
  replace hNn := Lib.hid hNn
  clear h hM g1 hcap hd
  go_enter Try.func99, Try.ntmps99
  go_wp2
  go_loopw [1, 7] (fun i _ W => ∃ (m : Nat), m ≤ l.length ∧ i = Vi (m : Int) ∧ Hid (d ≤ (pthN l m).length ∧ (pthN l m).take d = (pthN l n).take d) ∧ W = w) (fun i _ _ => (pthN l (intOf i).toNat).length)
  case atStart => exact ⟨n, hn, rfl, Lib.hid ⟨hd0.out, rfl⟩, rfl⟩
  case round =>
    obtain ⟨m, hm, rfl, hp, rfl⟩ := hrel
    obtain ⟨nd, hnd⟩ := hok.out.get hm
    obtain ⟨d1, d2, d3, q, d4, d5⟩ := hok.out.deep m nd hnd
    have d6 := hok.out.up m nd hnd
    have hi1 : (0 : Int) ≤ (m : Int) := by omega
    have hi2 : (m : Int) < (N : Int) := by have := hNn.out; omega
    obtain ⟨c0, c1, c2, c3, c4, c5⟩ := hN.out.at hnd
    by_cases hlt : d < nd.depth
    · have hlt' : (d : Int) < (nd.depth : Int) := by omega
      have hm0 : 0 < m := by
        rcases Nat.eq_zero_or_pos m with e | e
        · subst e; rw [d1] at hlt; simp [pthN_zero] at hlt
        · exact e
      obtain ⟨fd, hfd⟩ := hok.out.get d3
      obtain ⟨f1, _⟩ := hok.out.deep _ _ hfd
      obtain ⟨_, _, _, _, e4, _⟩ := hN.out.at hfd
      have hj1 : (0 : Int) ≤ (nd.far : Int) := by omega
      have hj2 : (nd.far : Int) < (N : Int) := by have := hNn.out; omega
      by_cases h2 : d ≤ fd.depth
      · have h2' : (d : Int) ≤ (fd.depth : Int) := by omega
        have hr := Lib.hid (show d ≤ (pthN l nd.far).length ∧ (pthN l nd.far).take d = (pthN l n).take d by
          refine ⟨by omega, ?_⟩
          rw [← hp.out.2, d4, take_pre (by omega)])
        have hms := Lib.hid (show (pthN l nd.far).length < (pthN l m).length by
          rw [d4, List.length_append]
          have := List.length_pos_iff.2 (d5 hm0)
          omega)
        clear hp d1 d4 d5 d6 f1 hnd hfd hlt h2
        go_wp2
        go_roundw
        case rel => exact ⟨nd.far, d3, rfl, hr, trivial⟩
        case measure => simpa [intOf] using hms.out
      · have h2' : ¬ (d : Int) ≤ (fd.depth : Int) := by omega
        have hup := d6 hm0
        have hr := Lib.hid (show d ≤ (pthN l nd.on).length ∧ (pthN l nd.on).take d = (pthN l n).take d by
          have : d ≤ (pthN l nd.on).length := by
            rw [hup] at d1
            simp at d1
            omega
          refine ⟨this, ?_⟩
          rw [← hp.out.2, hup, take_pre this])
        have hms := Lib.hid (show (pthN l nd.on).length < (pthN l m).length by
          rw [hup, List.length_append]; simp)
        clear hp d1 d4 d5 d6 f1 hnd hfd hlt h2 hup
        go_wp2
        go_roundw
        case rel => exact ⟨nd.on, d2, rfl, hr, trivial⟩
        case measure => simpa [intOf] using hms.out
    · have hlt' : ¬ (d : Int) < (nd.depth : Int) := by omega
      have hr := Lib.hid (show pthN l m = (pthN l n).take d by
        rw [← hp.out.2, List.take_of_length_le (by omega)])
      clear hp d1 d4 d5 d6 hnd hlt
      go_wp2
      go_ret
      exact ⟨m, rfl, hm, hr.out, Ext.refl _⟩

theorem w64_in {n : Int} (h0 : -9223372036854775808 ≤ n) (h1 : n ≤ 9223372036854775807) : wrap64 n = n := by rw [← IntWalk.i64_left]; exact IntWalk.i64_in n ⟨h0, h1⟩
set_option maxRecDepth 100000 in
set_option maxHeartbeats 4000000 in
theorem farFrom_any (g : Nat) (l : List It) (ns : List Nd) (n : Nat) (w : World) (h : GrT w g l ns) (hn : n ≤ l.length) (hb : l.length ≤ 1000000000000000) :
    Calls Try.prog 106 #[.pointer (some ⟨g, 0, none⟩), Vi (n : Int)] w fun e w' => e = .returned (Vi (farF ns n : Int)) ∧ Ext w w' := by
  obtain ⟨b, o, cap, g0, hcap, hN⟩ := h.cells
  have hok := h.ok
  obtain ⟨N, hNn⟩ : ∃ N, l.length + 1 = N := ⟨_, rfl⟩
  rw [hNn] at g0
  obtain ⟨nd, hnd⟩ := hok.get hn
  obtain ⟨d1, d2, d3, _⟩ := hok.deep n nd hnd
  obtain ⟨fd, hfd⟩ := hok.get d3
  obtain ⟨f1, f2, f3, _⟩ := hok.deep _ fd hfd
  obtain ⟨ed, hed⟩ := hok.get f3
  obtain ⟨e1, _⟩ := hok.deep _ ed hed
  have b1 := pth_len_le h.kn hn
  have b2 := pth_len_le h.kn d3
  have b3 := pth_len_le h.kn f3
  obtain ⟨c0, c1, c2, c3, c4, c5⟩ := hN.at hnd
  obtain ⟨k0, k1, k2, k3, k4, k5⟩ := hN.at hfd
  obtain ⟨m0, m1, m2, m3, m4, m5⟩ := hN.at hed
  have hi1 : (0 : Int) ≤ (n : Int) := by omega
  have hi2 : (n : Int) < (N : Int) := by omega
  have hj1 : (0 : Int) ≤ (nd.far : Int) := by omega
  have hj2 : (nd.far : Int) < (N : Int) := by omega
  have hl1 : (0 : Int) ≤ (fd.far : Int) := by omega
  have hl2 : (fd.far : Int) < (N : Int) := by omega
  have hA : farF ns n = if ((nd.depth : Int) - fd.depth = (fd.depth : Int) - ed.depth) then fd.far else n := by
    unfold farF
    simp only [getD_of hnd, getD_of hfd, getD_of hed]
  have z1 : wrap64 ((nd.depth : Int) - fd.depth) = (nd.depth : Int) - fd.depth := w64_in (by omega) (by omega)
  have z2 : wrap64 ((fd.depth : Int) - ed.depth) = (fd.depth : Int) - ed.depth := w64_in (by omega) (by omega)
  rw [hA]
  clear hA d1 d2 d3 f1 f2 f3 e1 hN hok hnd hfd hed h hcap b1 b2 b3 hn
  by_cases hc : (nd.depth : Int) - fd.depth = (fd.depth : Int) - ed.depth
  · rw [if_pos hc]
    have hc' : ((nd.depth : Int) - fd.depth == (fd.depth : Int) - ed.depth) = true := by rw [beq_iff_eq]; exact hc
    replace hc := Lib.hid hc
    go_enter Try.func106, Try.ntmps106
    go_wp2
    go_quiet (fail)
    go_wp2
    go_ret
    exact ⟨rfl, (Ext.refl _).drewN _⟩
  · rw [if_neg hc]
    have hc' : ((nd.depth : Int) - fd.depth == (fd.depth : Int) - ed.depth) = false := by rw [beq_eq_false_iff_ne]; exact hc
    replace hc := Lib.hid hc
    go_enter Try.func106, Try.ntmps106
    go_wp2
    go_quiet (fail)
    go_wp2
    go_ret
    exact ⟨rfl, (Ext.refl _).drewN _⟩

end Go.Proofs.Ytmpomammieenjaa

namespace Go.Proofs.Ytmpomammieenjaa
open Go.ChangeShapes Go.WideShapes Go.ChangeAt Go.RowKit Go.Sort
set_option linter.unusedVariables false
set_option linter.unusedSimpArgs false
attribute [local go_sem] World.cell?_alloc_some

theorem num_eq {l : List It} (h : knownI l = true) {m : Nat} {b : I2} (hm : m ≤ l.length) (hb : hasI l b = true) (e : pthN l m = pth l b) : m = numI l b := by
  obtain ⟨sb, pb, eb, _⟩ := pth_ends h b hb
  obtain ⟨i, hi⟩ := fnd_has hb
  rw [numI_at hi]
  cases m with
  | zero => rw [pthN_zero, eb] at e; simp at e
  | succ j =>
    obtain ⟨y, hy⟩ : ∃ y, l[j]? = some y := ⟨l[j], List.getElem?_eq_getElem (by omega)⟩
    rw [pthN_at hy] at e
    have hy' : hasI l (iid y) = true := has_iffI.2 ⟨y, List.mem_of_getElem? hy, rfl⟩
    have e2 := pth_inj h hy' hb e
    obtain ⟨z, hz, ez⟩ := fnd_some hi
    rw [id_once h hy hz (e2.trans ez.symm)]

set_option maxRecDepth 100000 in
set_option maxHeartbeats 4000000 in
theorem below_any (g : Nat) (l : List It) (ns : List Nd) (a1 a2 b1 b2 : Int) (w : World) (h : GrS w g l ns) (ha : hasI l (a1, a2) = true) (hbb : hasI l (b1, b2) = true) (hb : l.length ≤ 1000000000000000) :
    Calls Try.prog 78 #[.pointer (some ⟨g, 0, none⟩), idv a1 a2, idv b1 b2] w fun e w' => e = .returned (.bool (blwP l (paths l) (a1, a2) (b1, b2))) ∧ Ext w w' := by
  rw [below_is h.kn ha hbb]
  have h2 := h
  obtain ⟨b, o, cap, mb, g0, g1, hcap, hN, hM⟩ := h.cells
  have hok := h.ok
  obtain ⟨N, hNn⟩ : ∃ N, l.length + 1 = N := ⟨_, rfl⟩
  rw [hNn] at g0
  have hlk1 := Lib.hid (fun W (hW : Ext w W) => (hM.ext hW).num a1 a2)
  have hlk2 := Lib.hid (fun W (hW : Ext w W) => (hM.ext hW).num b1 b2)
  have hna := numI_le l (a1, a2)
  have hnb := numI_le l (b1, b2)
  obtain ⟨nd, hnd⟩ := hok.get hna
  obtain ⟨d1, _⟩ := hok.deep _ nd hnd
  obtain ⟨td, htd⟩ := hok.get hnb
  obtain ⟨t1, _⟩ := hok.deep _ td htd
  rw [pthN_num h2.kn] at d1 t1
  rw [← d1, ← t1]
  have hup := Lib.hid (fun W (hW : Ext w W) (hd : td.depth ≤ nd.depth) => upTo_any g l ns (numI l (a1, a2)) td.depth W (h2.ext hW) hna (by rw [pthN_num h2.kn, ← d1]; exact hd) hb)
  have hfin := Lib.hid (fun (m : Nat) (hm : m ≤ l.length) (e : pthN l m = (pthN l (numI l (a1, a2))).take td.depth) => show decide ((m : Int) = (numI l (b1, b2) : Int)) = decide ((pth l (a1, a2)).take td.depth = pth l (b1, b2)) by
    rw [pthN_num h2.kn] at e
    rw [← e]
    by_cases hc : pthN l m = pth l (b1, b2)
    · rw [decide_eq_true hc, num_eq h2.kn hm hbb hc]; simp
    · rw [decide_eq_false hc, decide_eq_false]
      intro e2
      have e3 : m = numI l (b1, b2) := by omega
      exact hc (by rw [e3, pthN_num h2.kn]))
  have hi1 : (0 : Int) ≤ (numI l (a1, a2) : Int) := by omega
  have hi2 : (numI l (a1, a2) : Int) < (N : Int) := by omega
  have hj1 : (0 : Int) ≤ (numI l (b1, b2) : Int) := by omega
  have hj2 : (numI l (b1, b2) : Int) < (N : Int) := by omega
  have hnN := Lib.hid (hN.at hnd)
  have htN := Lib.hid (hN.at htd)
  clear hN hM hok hnd htd d1 t1 hna hnb h h2 hcap ha hbb hb
  generalize pth l (a1, a2) = P at *
  generalize pth l (b1, b2) = Q at *
  generalize numI l (a1, a2) = na at *
  generalize numI l (b1, b2) = nb at *
  have x0 := ((Ext.refl w).alloc (.cells #[.int .u32 a1, .int .u32 a2] 41)).alloc (.cells #[.int .u32 b1, .int .u32 b2] 41)
  have q0 := x0.keep g0
  have q1 := x0.keep g1
  obtain ⟨c0, c1, c2, c3, c4, c5⟩ := hnN.out.ext x0
  obtain ⟨e0, e1, e2, e3, e4, e5⟩ := htN.out.ext x0
  have l1 := fun k => hlk1.out (World.drewN ((w.alloc (.cells #[.int .u32 a1, .int .u32 a2] 41)).alloc (.cells #[.int .u32 b1, .int .u32 b2] 41)) k) (x0.drewN k)
  have l2 := fun k => hlk2.out (World.drewN ((w.alloc (.cells #[.int .u32 a1, .int .u32 a2] 41)).alloc (.cells #[.int .u32 b1, .int .u32 b2] 41)) k) (x0.drewN k)
  have a0 : ((w.alloc (.cells #[.int .u32 a1, .int .u32 a2] 41)).alloc (.cells #[.int .u32 b1, .int .u32 b2] 41)).cell? ⟨w.heap.size, 0, none⟩ = some (Vu a1) := by simp [go_sem]
  have a0' : ((w.alloc (.cells #[.int .u32 a1, .int .u32 a2] 41)).alloc (.cells #[.int .u32 b1, .int .u32 b2] 41)).cell? ⟨w.heap.size, 1, none⟩ = some (Vu a2) := by simp [go_sem]
  have a1' : ((w.alloc (.cells #[.int .u32 a1, .int .u32 a2] 41)).alloc (.cells #[.int .u32 b1, .int .u32 b2] 41)).cell? ⟨w.heap.size + 1, 0, none⟩ = some (Vu b1) := by simp [go_sem]
  have a1'' : ((w.alloc (.cells #[.int .u32 a1, .int .u32 a2] 41)).alloc (.cells #[.int .u32 b1, .int .u32 b2] 41)).cell? ⟨w.heap.size + 1, 1, none⟩ = some (Vu b2) := by simp [go_sem]
  have hE := Lib.hid x0
  clear g0 g1 x0 hlk1 hlk2 hnN htN
  by_cases hlt : td.depth < nd.depth
  · have hlt' : ¬ (nd.depth : Int) ≤ (td.depth : Int) := by omega
    have hle : td.depth ≤ nd.depth := by omega
    rw [decide_eq_true hlt, Bool.true_and]
    obtain ⟨B, hB⟩ : ∃ B, decide (P.take td.depth = Q) = B := ⟨_, rfl⟩
    rw [hB]
    replace hB := Lib.hid hB
    replace hlt := Lib.hid hlt
    replace hle := Lib.hid hle
    go_enter Try.func78, Try.ntmps78
    go_wp2
    generalize (w.alloc (.cells #[.int .u32 a1, .int .u32 a2] 41)).alloc (.cells #[.int .u32 b1, .int .u32 b2] 41) = w0 at *
    generalize w.heap.size = pa at *
    go_quiet (fail)
    go_wp2
    go_quiet (fail)
    go_wp2_with fail
    refine (hup.out _ (hE.out.drewN _) hle.out).mono ?_
    rintro e w1 ⟨m, rfl, hm, hpm, x1⟩
    have hq := hfin.out m hm hpm
    have xe := Lib.hid ((hE.out.drewN _).trans x1)
    rw [hB.out] at hq
    clear x1 hpm hm hup hfin hB
    cases B with
    | true =>
      have hq' : ((m : Int) == (nb : Int)) = true := by simpa using hq
      go_wp2
      go_ret
      exact ⟨rfl, xe.out⟩
    | false =>
      have hq' : ((m : Int) == (nb : Int)) = false := by simpa using hq
      go_wp2
      go_ret
      exact ⟨rfl, xe.out⟩
  · have hlt' : (nd.depth : Int) ≤ (td.depth : Int) := by omega
    rw [decide_eq_false hlt, Bool.false_and]
    replace hlt := Lib.hid hlt
    clear hup hfin
    go_enter Try.func78, Try.ntmps78
    go_wp2
    generalize (w.alloc (.cells #[.int .u32 a1, .int .u32 a2] 41)).alloc (.cells #[.int .u32 b1, .int .u32 b2] 41) = w0 at *
    generalize w.heap.size = pa at *
    go_quiet (fail)
    go_wp2
    go_quiet (fail)
    go_wp2
    go_ret
    exact ⟨rfl, by first | exact hE.out.drewN _ | exact (hE.out.drewN _).drewN _⟩

end Go.Proofs.Ytmpomammieenjaa

namespace Go.Proofs.Ytmpomammieenjaa
open Go.ChangeShapes Go.WideShapes Go.ChangeAt Go.RowKit Go.Sort
set_option linter.unusedVariables false
set_option linter.unusedSimpArgs false
attribute [local go_sem] World.cell?_alloc_some

def HtIs (W : World) (q : Nat) (x : Hg) : Prop := W.heap[q]? = some (.cells #[Vu x.on.1, Vu x.on.2, .bool x.right] 114 (0, 0))
theorem HtIs.ext {W W' : World} {q : Nat} {x : Hg} (h : HtIs W q x) (hx : Ext W W') : HtIs W' q x := by
  unfold HtIs at h ⊢
  rw [RowKit.Below.block hx q (Array.getElem?_eq_some_iff.1 h).1]; exact h
theorem HtIs.store {W : World} {q : Nat} {x : Hg} (h : HtIs W q x) (a b : Int) (r : Bool) : HtIs (((W.setCell ⟨q, 0, none⟩ (Vu a)).setCell ⟨q, 1, none⟩ (Vu b)).setCell ⟨q, 2, none⟩ (.bool r)) q ⟨(a, b), r⟩ :=
  heap_setCell_same _ _ 2 _ _ _ (heap_setCell_same _ _ 1 _ _ _ (heap_setCell_same _ _ 0 _ _ _ h))
theorem HtIs.cells {W : World} {q : Nat} {x : Hg} (h : HtIs W q x) : W.cell? ⟨q, 0, none⟩ = some (Vu x.on.1) ∧ W.cell? ⟨q, 1, none⟩ = some (Vu x.on.2) ∧ W.cell? ⟨q, 2, none⟩ = some (.bool x.right) :=
  ⟨by rw [cell_of_row W q 0 _ _ _ h]; rfl, by rw [cell_of_row W q 1 _ _ _ h]; rfl, by rw [cell_of_row W q 2 _ _ _ h]; rfl⟩
theorem HtIs.thaw {W : World} {q : Nat} {x : Hg} (h : HtIs W q x) (o : Nat) : W.frozen? ⟨q, o, none⟩ = false := frozen_of_row W q o _ _ h
theorem HtIs.lt {W : World} {q : Nat} {x : Hg} (h : HtIs W q x) : q < W.heap.size := (Array.getElem?_eq_some_iff.1 h).1
theorem HtIs.new (W : World) (a b : Int) (r : Bool) : HtIs (W.alloc (.cells #[.int .u32 a, .int .u32 b, .bool r] 114)) W.heap.size ⟨(a, b), r⟩ := heap_alloc_new W _
theorem hgP_stay {l : List It} {x : It} (hr : x.rc = 0) : hgP l x = if x.lc = 0 then ⟨(0, 0), true⟩ else ⟨(x.lc, x.lk), true⟩ := by
  unfold hgP plcP
  rw [if_neg (fun e => e.1 hr)]
  split <;> rfl
theorem hgP_root {l : List It} {x : It} (hr : x.rc ≠ 0) (hl : x.lc = 0) : hgP l x = ⟨(x.rc, x.rk), false⟩ := by
  unfold hgP plcP
  rw [if_pos ⟨hr, by unfold blwP ilf; simp [hl]⟩]
  rfl
theorem hgP_both {l : List It} {x : It} (hr : x.rc ≠ 0) (hl : x.lc ≠ 0) : hgP l x = if blwP l (paths l) (irt x) (ilf x) = true then ⟨(x.rc, x.rk), false⟩ else ⟨(x.lc, x.lk), true⟩ := by
  unfold hgP plcP
  by_cases hb : blwP l (paths l) (irt x) (ilf x) = true
  · rw [if_pos ⟨hr, hb⟩, if_pos hb]; rfl
  · rw [if_neg (fun e => hb e.2), if_neg hb, if_neg hl]; rfl

set_option maxRecDepth 100000 in
set_option maxHeartbeats 4000000 in
theorem hang_m (g : Nat) (l : List It) (x : It) (w : World)
    (hcall : x.rc ≠ 0 → x.lc ≠ 0 → ∀ W, Ext w W → Calls Try.prog 78 #[.pointer (some ⟨g, 0, none⟩), idv x.rc x.rk, idv x.lc x.lk] W fun e w' => e = .returned (.bool (blwP l (paths l) (irt x) (ilf x))) ∧ Ext W w') :
    Calls Try.prog 75 #[itv x, .func (.func 78) #[.pointer (some ⟨g, 0, none⟩)] #[]] w fun e w' => e = .returned (hgv (hgP l x)) ∧ Ext w w' := by
  obtain ⟨R, hR⟩ : ∃ R, hgP l x = R := ⟨_, rfl⟩
  rw [hR]
  by_cases e0 : x.rc = 0
  · have g0 : (x.rc == 0) = true := by simpa using e0
    rw [hgP_stay e0] at hR
    by_cases e1 : x.lc = 0
    · have g1 : (x.lc == 0) = true := by simpa using e1
      rw [if_pos e1] at hR
      replace hR := Lib.hid hR.symm
      clear e0 e1 hcall
      go_enter Try.func75, Try.ntmps75
      go_wp2_with fail
      refine (none_any _ _ _).mono ?_
      rintro e w1 ⟨rfl, x1⟩
      have b0 : HtIs w1 (w.heap.size + 1) ⟨(0, 0), false⟩ := by
        have := HtIs.new (w.alloc (.cells #[.int .u32 x.c, .int .u32 x.k, .int .u32 x.lc, .int .u32 x.lk, .int .u32 x.rc, .int .u32 x.rk, .int .i32 x.ch] 43)) 0 0 false
        rw [show (w.alloc (.cells #[.int .u32 x.c, .int .u32 x.k, .int .u32 x.lc, .int .u32 x.lk, .int .u32 x.rc, .int .u32 x.rk, .int .i32 x.ch] 43)).heap.size = w.heap.size + 1 by simp] at this
        exact this.ext x1
      have a2 := x1.keep (p := ⟨w.heap.size, 2, none⟩) (v := Vu x.lc) (by simp [go_sem])
      have a3 := x1.keep (p := ⟨w.heap.size, 3, none⟩) (v := Vu x.lk) (by simp [go_sem])
      have a4 := x1.keep (p := ⟨w.heap.size, 4, none⟩) (v := Vu x.rc) (by simp [go_sem])
      have a5 := x1.keep (p := ⟨w.heap.size, 5, none⟩) (v := Vu x.rk) (by simp [go_sem])
      have xw : Ext w w1 := (((Ext.refl _).alloc _).alloc _).trans x1
      clear x1
      have hwb : w.heap.size ≤ w.heap.size + 1 := by omega
      obtain ⟨pb, hpb⟩ : ∃ pb, w.heap.size + 1 = pb := ⟨_, rfl⟩
      obtain ⟨pa, hpa⟩ : ∃ pa, w.heap.size = pa := ⟨_, rfl⟩
      rw [hpb] at b0 hwb ⊢
      rw [hpa] at a2 a3 a4 a5 ⊢
      clear hpa hpb
      replace b0 := Lib.hid b0
      go_wp2_with fail
      refine (none_any _ _ _).mono ?_
      rintro e w2 ⟨rfl, x2⟩
      replace xw := xw.trans x2
      replace b0 := Lib.hid (b0.out.ext x2)
      replace a2 := x2.keep a2
      replace a3 := x2.keep a3
      replace a4 := x2.keep a4
      replace a5 := x2.keep a5
      clear x2
      obtain ⟨k0, k1, k2⟩ := b0.out.cells
      have f0 := b0.out.thaw 0
      have f1 := b0.out.thaw 1
      have f2 := b0.out.thaw 2
      obtain ⟨z0, z1, z2⟩ := (b0.out.store 0 0 true).cells
      go_wp2
      exact bodyPost_ret (v := hgv ⟨(0, 0), true⟩) (by simp [results, Try.results75, go_sem, z0, z1, z2]) rfl ⟨by rw [hR.out], ((xw.setCell hwb _).setCell hwb _).setCell hwb _⟩
    · have g1 : (x.lc == 0) = false := by simpa using e1
      rw [if_neg e1] at hR
      replace hR := Lib.hid hR.symm
      clear e0 e1 hcall
      go_enter Try.func75, Try.ntmps75
      go_wp2_with fail
      refine (none_any _ _ _).mono ?_
      rintro e w1 ⟨rfl, x1⟩
      have b0 : HtIs w1 (w.heap.size + 1) ⟨(0, 0), false⟩ := by
        have := HtIs.new (w.alloc (.cells #[.int .u32 x.c, .int .u32 x.k, .int .u32 x.lc, .int .u32 x.lk, .int .u32 x.rc, .int .u32 x.rk, .int .i32 x.ch] 43)) 0 0 false
        rw [show (w.alloc (.cells #[.int .u32 x.c, .int .u32 x.k, .int .u32 x.lc, .int .u32 x.lk, .int .u32 x.rc, .int .u32 x.rk, .int .i32 x.ch] 43)).heap.size = w.heap.size + 1 by simp] at this
        exact this.ext x1
      have a2 := x1.keep (p := ⟨w.heap.size, 2, none⟩) (v := Vu x.lc) (by simp [go_sem])
      have a3 := x1.keep (p := ⟨w.heap.size, 3, none⟩) (v := Vu x.lk) (by simp [go_sem])
      have a4 := x1.keep (p := ⟨w.heap.size, 4, none⟩) (v := Vu x.rc) (by simp [go_sem])
      have a5 := x1.keep (p := ⟨w.heap.size, 5, none⟩) (v := Vu x.rk) (by simp [go_sem])
      have xw : Ext w w1 := (((Ext.refl _).alloc _).alloc _).trans x1
      clear x1
      have hwb : w.heap.size ≤ w.heap.size + 1 := by omega
      obtain ⟨pb, hpb⟩ : ∃ pb, w.heap.size + 1 = pb := ⟨_, rfl⟩
      obtain ⟨pa, hpa⟩ : ∃ pa, w.heap.size = pa := ⟨_, rfl⟩
      rw [hpb] at b0 hwb ⊢
      rw [hpa] at a2 a3 a4 a5 ⊢
      clear hpa hpb
      replace b0 := Lib.hid b0
      go_wp2_with fail
      refine (none_any _ _ _).mono ?_
      rintro e w2 ⟨rfl, x2⟩
      replace xw := xw.trans x2
      replace b0 := Lib.hid (b0.out.ext x2)
      replace a2 := x2.keep a2
      replace a3 := x2.keep a3
      replace a4 := x2.keep a4
      replace a5 := x2.keep a5
      clear x2
      obtain ⟨k0, k1, k2⟩ := b0.out.cells
      have f0 := b0.out.thaw 0
      have f1 := b0.out.thaw 1
      have f2 := b0.out.thaw 2
      obtain ⟨z0, z1, z2⟩ := (b0.out.store x.lc x.lk true).cells
      go_wp2
      exact bodyPost_ret (v := hgv ⟨(x.lc, x.lk), true⟩) (by simp [results, Try.results75, go_sem, z0, z1, z2]) rfl ⟨by rw [hR.out], ((xw.setCell hwb _).setCell hwb _).setCell hwb _⟩
  · have g0 : (x.rc == 0) = false := by simpa using e0
    by_cases e1 : x.lc = 0
    · have g1 : (x.lc == 0) = true := by simpa using e1
      rw [hgP_root e0 e1] at hR
      replace hR := Lib.hid hR.symm
      clear e0 e1 hcall
      go_enter Try.func75, Try.ntmps75
      go_wp2_with fail
      refine (none_any _ _ _).mono ?_
      rintro e w1 ⟨rfl, x1⟩
      have b0 : HtIs w1 (w.heap.size + 1) ⟨(0, 0), false⟩ := by
        have := HtIs.new (w.alloc (.cells #[.int .u32 x.c, .int .u32 x.k, .int .u32 x.lc, .int .u32 x.lk, .int .u32 x.rc, .int .u32 x.rk, .int .i32 x.ch] 43)) 0 0 false
        rw [show (w.alloc (.cells #[.int .u32 x.c, .int .u32 x.k, .int .u32 x.lc, .int .u32 x.lk, .int .u32 x.rc, .int .u32 x.rk, .int .i32 x.ch] 43)).heap.size = w.heap.size + 1 by simp] at this
        exact this.ext x1
      have a2 := x1.keep (p := ⟨w.heap.size, 2, none⟩) (v := Vu x.lc) (by simp [go_sem])
      have a3 := x1.keep (p := ⟨w.heap.size, 3, none⟩) (v := Vu x.lk) (by simp [go_sem])
      have a4 := x1.keep (p := ⟨w.heap.size, 4, none⟩) (v := Vu x.rc) (by simp [go_sem])
      have a5 := x1.keep (p := ⟨w.heap.size, 5, none⟩) (v := Vu x.rk) (by simp [go_sem])
      have xw : Ext w w1 := (((Ext.refl _).alloc _).alloc _).trans x1
      clear x1
      have hwb : w.heap.size ≤ w.heap.size + 1 := by omega
      obtain ⟨pb, hpb⟩ : ∃ pb, w.heap.size + 1 = pb := ⟨_, rfl⟩
      obtain ⟨pa, hpa⟩ : ∃ pa, w.heap.size = pa := ⟨_, rfl⟩
      rw [hpb] at b0 hwb ⊢
      rw [hpa] at a2 a3 a4 a5 ⊢
      clear hpa hpb
      replace b0 := Lib.hid b0
      go_wp2_with fail
      refine (none_any _ _ _).mono ?_
      rintro e w2 ⟨rfl, x2⟩
      replace xw := xw.trans x2
      replace b0 := Lib.hid (b0.out.ext x2)
      replace a2 := x2.keep a2
      replace a3 := x2.keep a3
      replace a4 := x2.keep a4
      replace a5 := x2.keep a5
      clear x2
      obtain ⟨k0, k1, k2⟩ := b0.out.cells
      have f0 := b0.out.thaw 0
      have f1 := b0.out.thaw 1
      have f2 := b0.out.thaw 2
      obtain ⟨z0, z1, z2⟩ := (b0.out.store x.rc x.rk false).cells
      go_wp2
      exact bodyPost_ret (v := hgv ⟨(x.rc, x.rk), false⟩) (by simp [results, Try.results75, go_sem, z0, z1, z2]) rfl ⟨by rw [hR.out], ((xw.setCell hwb _).setCell hwb _).setCell hwb _⟩
    · have g1 : (x.lc == 0) = false := by simpa using e1
      rw [hgP_both e0 e1] at hR
      have hc := Lib.hid (hcall e0 e1)
      clear e0 e1 hcall
      cases hB : blwP l (paths l) (irt x) (ilf x) with
      | true =>
        rw [hB] at hc hR
        rw [if_pos rfl] at hR
        replace hR := Lib.hid hR.symm
        clear hB
        go_enter Try.func75, Try.ntmps75
        go_wp2_with fail
        refine (none_any _ _ _).mono ?_
        rintro e w1 ⟨rfl, x1⟩
        have b0 : HtIs w1 (w.heap.size + 1) ⟨(0, 0), false⟩ := by
          have := HtIs.new (w.alloc (.cells #[.int .u32 x.c, .int .u32 x.k, .int .u32 x.lc, .int .u32 x.lk, .int .u32 x.rc, .int .u32 x.rk, .int .i32 x.ch] 43)) 0 0 false
          rw [show (w.alloc (.cells #[.int .u32 x.c, .int .u32 x.k, .int .u32 x.lc, .int .u32 x.lk, .int .u32 x.rc, .int .u32 x.rk, .int .i32 x.ch] 43)).heap.size = w.heap.size + 1 by simp] at this
          exact this.ext x1
        have a2 := x1.keep (p := ⟨w.heap.size, 2, none⟩) (v := Vu x.lc) (by simp [go_sem])
        have a3 := x1.keep (p := ⟨w.heap.size, 3, none⟩) (v := Vu x.lk) (by simp [go_sem])
        have a4 := x1.keep (p := ⟨w.heap.size, 4, none⟩) (v := Vu x.rc) (by simp [go_sem])
        have a5 := x1.keep (p := ⟨w.heap.size, 5, none⟩) (v := Vu x.rk) (by simp [go_sem])
        have xw : Ext w w1 := (((Ext.refl _).alloc _).alloc _).trans x1
        clear x1
        have hwb : w.heap.size ≤ w.heap.size + 1 := by omega
        obtain ⟨pb, hpb⟩ : ∃ pb, w.heap.size + 1 = pb := ⟨_, rfl⟩
        obtain ⟨pa, hpa⟩ : ∃ pa, w.heap.size = pa := ⟨_, rfl⟩
        rw [hpb] at b0 hwb ⊢
        rw [hpa] at a2 a3 a4 a5 ⊢
        clear hpa hpb
        replace b0 := Lib.hid b0
        go_wp2_with fail
        refine (none_any _ _ _).mono ?_
        rintro e w2 ⟨rfl, x2⟩
        replace xw := xw.trans x2
        replace b0 := Lib.hid (b0.out.ext x2)
        replace a2 := x2.keep a2
        replace a3 := x2.keep a3
        replace a4 := x2.keep a4
        replace a5 := x2.keep a5
        clear x2
        go_wp2_with fail
        refine (hc.out _ xw).mono ?_
        rintro e w3 ⟨rfl, x3⟩
        replace xw := xw.trans x3
        replace b0 := Lib.hid (b0.out.ext x3)
        replace a2 := x3.keep a2
        replace a3 := x3.keep a3
        replace a4 := x3.keep a4
        replace a5 := x3.keep a5
        clear x3
        obtain ⟨k0, k1, k2⟩ := b0.out.cells
        have f0 := b0.out.thaw 0
        have f1 := b0.out.thaw 1
        have f2 := b0.out.thaw 2
        obtain ⟨z0, z1, z2⟩ := (b0.out.store x.rc x.rk false).cells
        go_wp2
        exact bodyPost_ret (v := hgv ⟨(x.rc, x.rk), false⟩) (by simp [results, Try.results75, go_sem, z0, z1, z2]) rfl ⟨by rw [hR.out], ((xw.setCell hwb _).setCell hwb _).setCell hwb _⟩
      | false =>
        rw [hB] at hc hR
        rw [if_neg (by decide)] at hR
        replace hR := Lib.hid hR.symm
        clear hB
        go_enter Try.func75, Try.ntmps75
        go_wp2_with fail
        refine (none_any _ _ _).mono ?_
        rintro e w1 ⟨rfl, x1⟩
        have b0 : HtIs w1 (w.heap.size + 1) ⟨(0, 0), false⟩ := by
          have := HtIs.new (w.alloc (.cells #[.int .u32 x.c, .int .u32 x.k, .int .u32 x.lc, .int .u32 x.lk, .int .u32 x.rc, .int .u32 x.rk, .int .i32 x.ch] 43)) 0 0 false
          rw [show (w.alloc (.cells #[.int .u32 x.c, .int .u32 x.k, .int .u32 x.lc, .int .u32 x.lk, .int .u32 x.rc, .int .u32 x.rk, .int .i32 x.ch] 43)).heap.size = w.heap.size + 1 by simp] at this
          exact this.ext x1
        have a2 := x1.keep (p := ⟨w.heap.size, 2, none⟩) (v := Vu x.lc) (by simp [go_sem])
        have a3 := x1.keep (p := ⟨w.heap.size, 3, none⟩) (v := Vu x.lk) (by simp [go_sem])
        have a4 := x1.keep (p := ⟨w.heap.size, 4, none⟩) (v := Vu x.rc) (by simp [go_sem])
        have a5 := x1.keep (p := ⟨w.heap.size, 5, none⟩) (v := Vu x.rk) (by simp [go_sem])
        have xw : Ext w w1 := (((Ext.refl _).alloc _).alloc _).trans x1
        clear x1
        have hwb : w.heap.size ≤ w.heap.size + 1 := by omega
        obtain ⟨pb, hpb⟩ : ∃ pb, w.heap.size + 1 = pb := ⟨_, rfl⟩
        obtain ⟨pa, hpa⟩ : ∃ pa, w.heap.size = pa := ⟨_, rfl⟩
        rw [hpb] at b0 hwb ⊢
        rw [hpa] at a2 a3 a4 a5 ⊢
        clear hpa hpb
        replace b0 := Lib.hid b0
        go_wp2_with fail
        refine (none_any _ _ _).mono ?_
        rintro e w2 ⟨rfl, x2⟩
        replace xw := xw.trans x2
        replace b0 := Lib.hid (b0.out.ext x2)
        replace a2 := x2.keep a2
        replace a3 := x2.keep a3
        replace a4 := x2.keep a4
        replace a5 := x2.keep a5
        clear x2
        go_wp2_with fail
        refine (hc.out _ xw).mono ?_
        rintro e w3 ⟨rfl, x3⟩
        replace xw := xw.trans x3
        replace b0 := Lib.hid (b0.out.ext x3)
        replace a2 := x3.keep a2
        replace a3 := x3.keep a3
        replace a4 := x3.keep a4
        replace a5 := x3.keep a5
        clear x3
        go_wp2_with fail
        refine (none_any _ _ _).mono ?_
        rintro e w4 ⟨rfl, x2⟩
        replace xw := xw.trans x2
        replace b0 := Lib.hid (b0.out.ext x2)
        replace a2 := x2.keep a2
        replace a3 := x2.keep a3
        replace a4 := x2.keep a4
        replace a5 := x2.keep a5
        clear x2
        obtain ⟨k0, k1, k2⟩ := b0.out.cells
        have f0 := b0.out.thaw 0
        have f1 := b0.out.thaw 1
        have f2 := b0.out.thaw 2
        obtain ⟨z0, z1, z2⟩ := (b0.out.store x.lc x.lk true).cells
        go_wp2
        exact bodyPost_ret (v := hgv ⟨(x.lc, x.lk), true⟩) (by simp [results, Try.results75, go_sem, z0, z1, z2]) rfl ⟨by rw [hR.out], ((xw.setCell hwb _).setCell hwb _).setCell hwb _⟩

set_option maxRecDepth 100000 in
set_option maxHeartbeats 4000000 in
theorem hang_c (q : Nat) (l : List It) (x : It) (w : World)
    (hcall : x.rc ≠ 0 → x.lc ≠ 0 → ∀ W, Ext w W → Calls Try.prog 76 #[idv x.rc x.rk, idv x.lc x.lk, .pointer (some ⟨q, 0, none⟩)] W fun e w' => e = .returned (.bool (blwP l (paths l) (irt x) (ilf x))) ∧ Ext W w') :
    Calls Try.prog 75 #[itv x, .func (.func 76) #[] #[.pointer (some ⟨q, 0, none⟩)]] w fun e w' => e = .returned (hgv (hgP l x)) ∧ Ext w w' := by
  obtain ⟨R, hR⟩ : ∃ R, hgP l x = R := ⟨_, rfl⟩
  rw [hR]
  by_cases e0 : x.rc = 0
  · have g0 : (x.rc == 0) = true := by simpa using e0
    rw [hgP_stay e0] at hR
    by_cases e1 : x.lc = 0
    · have g1 : (x.lc == 0) = true := by simpa using e1
      rw [if_pos e1] at hR
      replace hR := Lib.hid hR.symm
      clear e0 e1 hcall
      go_enter Try.func75, Try.ntmps75
      go_wp2_with fail
      refine (none_any _ _ _).mono ?_
      rintro e w1 ⟨rfl, x1⟩
      have b0 : HtIs w1 (w.heap.size + 1) ⟨(0, 0), false⟩ := by
        have := HtIs.new (w.alloc (.cells #[.int .u32 x.c, .int .u32 x.k, .int .u32 x.lc, .int .u32 x.lk, .int .u32 x.rc, .int .u32 x.rk, .int .i32 x.ch] 43)) 0 0 false
        rw [show (w.alloc (.cells #[.int .u32 x.c, .int .u32 x.k, .int .u32 x.lc, .int .u32 x.lk, .int .u32 x.rc, .int .u32 x.rk, .int .i32 x.ch] 43)).heap.size = w.heap.size + 1 by simp] at this
        exact this.ext x1
      have a2 := x1.keep (p := ⟨w.heap.size, 2, none⟩) (v := Vu x.lc) (by simp [go_sem])
      have a3 := x1.keep (p := ⟨w.heap.size, 3, none⟩) (v := Vu x.lk) (by simp [go_sem])
      have a4 := x1.keep (p := ⟨w.heap.size, 4, none⟩) (v := Vu x.rc) (by simp [go_sem])
      have a5 := x1.keep (p := ⟨w.heap.size, 5, none⟩) (v := Vu x.rk) (by simp [go_sem])
      have xw : Ext w w1 := (((Ext.refl _).alloc _).alloc _).trans x1
      clear x1
      have hwb : w.heap.size ≤ w.heap.size + 1 := by omega
      obtain ⟨pb, hpb⟩ : ∃ pb, w.heap.size + 1 = pb := ⟨_, rfl⟩
      obtain ⟨pa, hpa⟩ : ∃ pa, w.heap.size = pa := ⟨_, rfl⟩
      rw [hpb] at b0 hwb ⊢
      rw [hpa] at a2 a3 a4 a5 ⊢
      clear hpa hpb
      replace b0 := Lib.hid b0
      go_wp2_with fail
      refine (none_any _ _ _).mono ?_
      rintro e w2 ⟨rfl, x2⟩
      replace xw := xw.trans x2
      replace b0 := Lib.hid (b0.out.ext x2)
      replace a2 := x2.keep a2
      replace a3 := x2.keep a3
      replace a4 := x2.keep a4
      replace a5 := x2.keep a5
      clear x2
      obtain ⟨k0, k1, k2⟩ := b0.out.cells
      have f0 := b0.out.thaw 0
      have f1 := b0.out.thaw 1
      have f2 := b0.out.thaw 2
      obtain ⟨z0, z1, z2⟩ := (b0.out.store 0 0 true).cells
      go_wp2
      exact bodyPost_ret (v := hgv ⟨(0, 0), true⟩) (by simp [results, Try.results75, go_sem, z0, z1, z2]) rfl ⟨by rw [hR.out], ((xw.setCell hwb _).setCell hwb _).setCell hwb _⟩
    · have g1 : (x.lc == 0) = false := by simpa using e1
      rw [if_neg e1] at hR
      replace hR := Lib.hid hR.symm
      clear e0 e1 hcall
      go_enter Try.func75, Try.ntmps75
      go_wp2_with fail
      refine (none_any _ _ _).mono ?_
      rintro e w1 ⟨rfl, x1⟩
      have b0 : HtIs w1 (w.heap.size + 1) ⟨(0, 0), false⟩ := by
        have := HtIs.new (w.alloc (.cells #[.int .u32 x.c, .int .u32 x.k, .int .u32 x.lc, .int .u32 x.lk, .int .u32 x.rc, .int .u32 x.rk, .int .i32 x.ch] 43)) 0 0 false
        rw [show (w.alloc (.cells #[.int .u32 x.c, .int .u32 x.k, .int .u32 x.lc, .int .u32 x.lk, .int .u32 x.rc, .int .u32 x.rk, .int .i32 x.ch] 43)).heap.size = w.heap.size + 1 by simp] at this
        exact this.ext x1
      have a2 := x1.keep (p := ⟨w.heap.size, 2, none⟩) (v := Vu x.lc) (by simp [go_sem])
      have a3 := x1.keep (p := ⟨w.heap.size, 3, none⟩) (v := Vu x.lk) (by simp [go_sem])
      have a4 := x1.keep (p := ⟨w.heap.size, 4, none⟩) (v := Vu x.rc) (by simp [go_sem])
      have a5 := x1.keep (p := ⟨w.heap.size, 5, none⟩) (v := Vu x.rk) (by simp [go_sem])
      have xw : Ext w w1 := (((Ext.refl _).alloc _).alloc _).trans x1
      clear x1
      have hwb : w.heap.size ≤ w.heap.size + 1 := by omega
      obtain ⟨pb, hpb⟩ : ∃ pb, w.heap.size + 1 = pb := ⟨_, rfl⟩
      obtain ⟨pa, hpa⟩ : ∃ pa, w.heap.size = pa := ⟨_, rfl⟩
      rw [hpb] at b0 hwb ⊢
      rw [hpa] at a2 a3 a4 a5 ⊢
      clear hpa hpb
      replace b0 := Lib.hid b0
      go_wp2_with fail
      refine (none_any _ _ _).mono ?_
      rintro e w2 ⟨rfl, x2⟩
      replace xw := xw.trans x2
      replace b0 := Lib.hid (b0.out.ext x2)
      replace a2 := x2.keep a2
      replace a3 := x2.keep a3
      replace a4 := x2.keep a4
      replace a5 := x2.keep a5
      clear x2
      obtain ⟨k0, k1, k2⟩ := b0.out.cells
      have f0 := b0.out.thaw 0
      have f1 := b0.out.thaw 1
      have f2 := b0.out.thaw 2
      obtain ⟨z0, z1, z2⟩ := (b0.out.store x.lc x.lk true).cells
      go_wp2
      exact bodyPost_ret (v := hgv ⟨(x.lc, x.lk), true⟩) (by simp [results, Try.results75, go_sem, z0, z1, z2]) rfl ⟨by rw [hR.out], ((xw.setCell hwb _).setCell hwb _).setCell hwb _⟩
  · have g0 : (x.rc == 0) = false := by simpa using e0
    by_cases e1 : x.lc = 0
    · have g1 : (x.lc == 0) = true := by simpa using e1
      rw [hgP_root e0 e1] at hR
      replace hR := Lib.hid hR.symm
      clear e0 e1 hcall
      go_enter Try.func75, Try.ntmps75
      go_wp2_with fail
      refine (none_any _ _ _).mono ?_
      rintro e w1 ⟨rfl, x1⟩
      have b0 : HtIs w1 (w.heap.size + 1) ⟨(0, 0), false⟩ := by
        have := HtIs.new (w.alloc (.cells #[.int .u32 x.c, .int .u32 x.k, .int .u32 x.lc, .int .u32 x.lk, .int .u32 x.rc, .int .u32 x.rk, .int .i32 x.ch] 43)) 0 0 false
        rw [show (w.alloc (.cells #[.int .u32 x.c, .int .u32 x.k, .int .u32 x.lc, .int .u32 x.lk, .int .u32 x.rc, .int .u32 x.rk, .int .i32 x.ch] 43)).heap.size = w.heap.size + 1 by simp] at this
        exact this.ext x1
      have a2 := x1.keep (p := ⟨w.heap.size, 2, none⟩) (v := Vu x.lc) (by simp [go_sem])
      have a3 := x1.keep (p := ⟨w.heap.size, 3, none⟩) (v := Vu x.lk) (by simp [go_sem])
      have a4 := x1.keep (p := ⟨w.heap.size, 4, none⟩) (v := Vu x.rc) (by simp [go_sem])
      have a5 := x1.keep (p := ⟨w.heap.size, 5, none⟩) (v := Vu x.rk) (by simp [go_sem])
      have xw : Ext w w1 := (((Ext.refl _).alloc _).alloc _).trans x1
      clear x1
      have hwb : w.heap.size ≤ w.heap.size + 1 := by omega
      obtain ⟨pb, hpb⟩ : ∃ pb, w.heap.size + 1 = pb := ⟨_, rfl⟩
      obtain ⟨pa, hpa⟩ : ∃ pa, w.heap.size = pa := ⟨_, rfl⟩
      rw [hpb] at b0 hwb ⊢
      rw [hpa] at a2 a3 a4 a5 ⊢
      clear hpa hpb
      replace b0 := Lib.hid b0
      go_wp2_with fail
      refine (none_any _ _ _).mono ?_
      rintro e w2 ⟨rfl, x2⟩
      replace xw := xw.trans x2
      replace b0 := Lib.hid (b0.out.ext x2)
      replace a2 := x2.keep a2
      replace a3 := x2.keep a3
      replace a4 := x2.keep a4
      replace a5 := x2.keep a5
      clear x2
      obtain ⟨k0, k1, k2⟩ := b0.out.cells
      have f0 := b0.out.thaw 0
      have f1 := b0.out.thaw 1
      have f2 := b0.out.thaw 2
      obtain ⟨z0, z1, z2⟩ := (b0.out.store x.rc x.rk false).cells
      go_wp2
      exact bodyPost_ret (v := hgv ⟨(x.rc, x.rk), false⟩) (by simp [results, Try.results75, go_sem, z0, z1, z2]) rfl ⟨by rw [hR.out], ((xw.setCell hwb _).setCell hwb _).setCell hwb _⟩
    · have g1 : (x.lc == 0) = false := by simpa using e1
      rw [hgP_both e0 e1] at hR
      have hc := Lib.hid (hcall e0 e1)
      clear e0 e1 hcall
      cases hB : blwP l (paths l) (irt x) (ilf x) with
      | true =>
        rw [hB] at hc hR
        rw [if_pos rfl] at hR
        replace hR := Lib.hid hR.symm
        clear hB
        go_enter Try.func75, Try.ntmps75
        go_wp2_with fail
        refine (none_any _ _ _).mono ?_
        rintro e w1 ⟨rfl, x1⟩
        have b0 : HtIs w1 (w.heap.size + 1) ⟨(0, 0), false⟩ := by
          have := HtIs.new (w.alloc (.cells #[.int .u32 x.c, .int .u32 x.k, .int .u32 x.lc, .int .u32 x.lk, .int .u32 x.rc, .int .u32 x.rk, .int .i32 x.ch] 43)) 0 0 false
          rw [show (w.alloc (.cells #[.int .u32 x.c, .int .u32 x.k, .int .u32 x.lc, .int .u32 x.lk, .int .u32 x.rc, .int .u32 x.rk, .int .i32 x.ch] 43)).heap.size = w.heap.size + 1 by simp] at this
          exact this.ext x1
        have a2 := x1.keep (p := ⟨w.heap.size, 2, none⟩) (v := Vu x.lc) (by simp [go_sem])
        have a3 := x1.keep (p := ⟨w.heap.size, 3, none⟩) (v := Vu x.lk) (by simp [go_sem])
        have a4 := x1.keep (p := ⟨w.heap.size, 4, none⟩) (v := Vu x.rc) (by simp [go_sem])
        have a5 := x1.keep (p := ⟨w.heap.size, 5, none⟩) (v := Vu x.rk) (by simp [go_sem])
        have xw : Ext w w1 := (((Ext.refl _).alloc _).alloc _).trans x1
        clear x1
        have hwb : w.heap.size ≤ w.heap.size + 1 := by omega
        obtain ⟨pb, hpb⟩ : ∃ pb, w.heap.size + 1 = pb := ⟨_, rfl⟩
        obtain ⟨pa, hpa⟩ : ∃ pa, w.heap.size = pa := ⟨_, rfl⟩
        rw [hpb] at b0 hwb ⊢
        rw [hpa] at a2 a3 a4 a5 ⊢
        clear hpa hpb
        replace b0 := Lib.hid b0
        go_wp2_with fail
        refine (none_any _ _ _).mono ?_
        rintro e w2 ⟨rfl, x2⟩
        replace xw := xw.trans x2
        replace b0 := Lib.hid (b0.out.ext x2)
        replace a2 := x2.keep a2
        replace a3 := x2.keep a3
        replace a4 := x2.keep a4
        replace a5 := x2.keep a5
        clear x2
        go_wp2_with fail
        refine (hc.out _ xw).mono ?_
        rintro e w3 ⟨rfl, x3⟩
        replace xw := xw.trans x3
        replace b0 := Lib.hid (b0.out.ext x3)
        replace a2 := x3.keep a2
        replace a3 := x3.keep a3
        replace a4 := x3.keep a4
        replace a5 := x3.keep a5
        clear x3
        obtain ⟨k0, k1, k2⟩ := b0.out.cells
        have f0 := b0.out.thaw 0
        have f1 := b0.out.thaw 1
        have f2 := b0.out.thaw 2
        obtain ⟨z0, z1, z2⟩ := (b0.out.store x.rc x.rk false).cells
        go_wp2
        exact bodyPost_ret (v := hgv ⟨(x.rc, x.rk), false⟩) (by simp [results, Try.results75, go_sem, z0, z1, z2]) rfl ⟨by rw [hR.out], ((xw.setCell hwb _).setCell hwb _).setCell hwb _⟩
      | false =>
        rw [hB] at hc hR
        rw [if_neg (by decide)] at hR
        replace hR := Lib.hid hR.symm
        clear hB
        go_enter Try.func75, Try.ntmps75
        go_wp2_with fail
        refine (none_any _ _ _).mono ?_
        rintro e w1 ⟨rfl, x1⟩
        have b0 : HtIs w1 (w.heap.size + 1) ⟨(0, 0), false⟩ := by
          have := HtIs.new (w.alloc (.cells #[.int .u32 x.c, .int .u32 x.k, .int .u32 x.lc, .int .u32 x.lk, .int .u32 x.rc, .int .u32 x.rk, .int .i32 x.ch] 43)) 0 0 false
          rw [show (w.alloc (.cells #[.int .u32 x.c, .int .u32 x.k, .int .u32 x.lc, .int .u32 x.lk, .int .u32 x.rc, .int .u32 x.rk, .int .i32 x.ch] 43)).heap.size = w.heap.size + 1 by simp] at this
          exact this.ext x1
        have a2 := x1.keep (p := ⟨w.heap.size, 2, none⟩) (v := Vu x.lc) (by simp [go_sem])
        have a3 := x1.keep (p := ⟨w.heap.size, 3, none⟩) (v := Vu x.lk) (by simp [go_sem])
        have a4 := x1.keep (p := ⟨w.heap.size, 4, none⟩) (v := Vu x.rc) (by simp [go_sem])
        have a5 := x1.keep (p := ⟨w.heap.size, 5, none⟩) (v := Vu x.rk) (by simp [go_sem])
        have xw : Ext w w1 := (((Ext.refl _).alloc _).alloc _).trans x1
        clear x1
        have hwb : w.heap.size ≤ w.heap.size + 1 := by omega
        obtain ⟨pb, hpb⟩ : ∃ pb, w.heap.size + 1 = pb := ⟨_, rfl⟩
        obtain ⟨pa, hpa⟩ : ∃ pa, w.heap.size = pa := ⟨_, rfl⟩
        rw [hpb] at b0 hwb ⊢
        rw [hpa] at a2 a3 a4 a5 ⊢
        clear hpa hpb
        replace b0 := Lib.hid b0
        go_wp2_with fail
        refine (none_any _ _ _).mono ?_
        rintro e w2 ⟨rfl, x2⟩
        replace xw := xw.trans x2
        replace b0 := Lib.hid (b0.out.ext x2)
        replace a2 := x2.keep a2
        replace a3 := x2.keep a3
        replace a4 := x2.keep a4
        replace a5 := x2.keep a5
        clear x2
        go_wp2_with fail
        refine (hc.out _ xw).mono ?_
        rintro e w3 ⟨rfl, x3⟩
        replace xw := xw.trans x3
        replace b0 := Lib.hid (b0.out.ext x3)
        replace a2 := x3.keep a2
        replace a3 := x3.keep a3
        replace a4 := x3.keep a4
        replace a5 := x3.keep a5
        clear x3
        go_wp2_with fail
        refine (none_any _ _ _).mono ?_
        rintro e w4 ⟨rfl, x2⟩
        replace xw := xw.trans x2
        replace b0 := Lib.hid (b0.out.ext x2)
        replace a2 := x2.keep a2
        replace a3 := x2.keep a3
        replace a4 := x2.keep a4
        replace a5 := x2.keep a5
        clear x2
        obtain ⟨k0, k1, k2⟩ := b0.out.cells
        have f0 := b0.out.thaw 0
        have f1 := b0.out.thaw 1
        have f2 := b0.out.thaw 2
        obtain ⟨z0, z1, z2⟩ := (b0.out.store x.lc x.lk true).cells
        go_wp2
        exact bodyPost_ret (v := hgv ⟨(x.lc, x.lk), true⟩) (by simp [results, Try.results75, go_sem, z0, z1, z2]) rfl ⟨by rw [hR.out], ((xw.setCell hwb _).setCell hwb _).setCell hwb _⟩

end Go.Proofs.Ytmpomammieenjaa
