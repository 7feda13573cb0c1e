/-
  Contracts of leanRight, leanLeft, balance; no claim stands here.
-/
import Derived.Test.YtanknhalgoheeaaYJoin
import Derived.Test.YtanknhalgoheeaaSoft2
namespace Go.Proofs.Ytanknhalgoheeaa
open Go.ChangeShapes Go.WideShapes Go.ChangeAt Go.RowKit Go.Sort
set_option linter.unusedVariables false
attribute [local go_sem] World.cell?_alloc_some

/-- what the slots hold -/
def lrTab2 (G : Nat → Prop) (ba bb p q : Nat) (x y tb : Tr) : SoftTab := [(20, fun z9 W => z9 = .pointer (some ⟨ba, 0, none⟩)),
  (21, fun z9 W => z9 = .pointer (some ⟨ba, 0, none⟩)),
  (22, fun z9 W => z9 = .pointer (some ⟨ba, 1, none⟩)),
  (23, fun z9 W => z9 = .pointer (some ⟨p, 0, none⟩)),
  (24, fun z9 W => z9 = .pointer (some ⟨ba, 0, none⟩)),
  (25, fun z9 W => z9 = .pointer (some ⟨ba, 0, none⟩)),
  (26, fun z9 W => z9 = .pointer (some ⟨ba, 2, none⟩)),
  (27, fun z9 W => z9 = .pointer (some ⟨q, 0, none⟩)),
  (28, fun z9 W => z9 = .pointer (some ⟨bb, 0, none⟩)),
  (29, fun z9 W => NewP G W z9 (.node y tb))]
theorem lrTab2_mono (G : Nat → Prop) (ba bb p q : Nat) (x y tb : Tr) (Rel : World → World → Prop) (hR : ∀ W W', Rel W W' → Ext W W') : SoftMonoR Rel (lrTab2 G ba bb p q x y tb) := by
  intro p hp v W W' h hx
  simp only [lrTab2, List.mem_cons, List.not_mem_nil, or_false] at hp
  rcases hp with rfl | rfl | rfl | rfl | rfl | rfl | rfl | rfl | rfl | rfl
  all_goals first
    | exact h
    | exact NewP.ext h (hR _ _ hx)

/-- what the slots hold -/
def lrTab3 (G : Nat → Prop) (ba bb p q r s : Nat) (x u z tb : Tr) : SoftTab := [(31, fun z9 W => z9 = .pointer (some ⟨ba, 0, none⟩)),
  (32, fun z9 W => z9 = .pointer (some ⟨ba, 0, none⟩)),
  (33, fun z9 W => z9 = .pointer (some ⟨ba, 1, none⟩)),
  (34, fun z9 W => z9 = .pointer (some ⟨p, 0, none⟩)),
  (35, fun z9 W => z9 = .pointer (some ⟨ba, 0, none⟩)),
  (36, fun z9 W => z9 = .pointer (some ⟨ba, 0, none⟩)),
  (37, fun z9 W => z9 = .pointer (some ⟨ba, 2, none⟩)),
  (38, fun z9 W => z9 = .pointer (some ⟨q, 0, none⟩)),
  (39, fun z9 W => z9 = .pointer (some ⟨q, 0, none⟩)),
  (40, fun z9 W => z9 = .pointer (some ⟨q, 1, none⟩)),
  (41, fun z9 W => z9 = .pointer (some ⟨r, 0, none⟩)),
  (42, fun z9 W => NewP G W z9 (.node x u)),
  (43, fun z9 W => z9 = .pointer (some ⟨ba, 0, none⟩)),
  (44, fun z9 W => z9 = .pointer (some ⟨ba, 0, none⟩)),
  (45, fun z9 W => z9 = .pointer (some ⟨ba, 2, none⟩)),
  (46, fun z9 W => z9 = .pointer (some ⟨q, 0, none⟩)),
  (47, fun z9 W => z9 = .pointer (some ⟨q, 0, none⟩)),
  (48, fun z9 W => z9 = .pointer (some ⟨q, 2, none⟩)),
  (49, fun z9 W => z9 = .pointer (some ⟨s, 0, none⟩)),
  (50, fun z9 W => z9 = .pointer (some ⟨bb, 0, none⟩)),
  (51, fun z9 W => NewP G W z9 (.node z tb))]
theorem lrTab3_mono (G : Nat → Prop) (ba bb p q r s : Nat) (x u z tb : Tr) (Rel : World → World → Prop) (hR : ∀ W W', Rel W W' → Ext W W') : SoftMonoR Rel (lrTab3 G ba bb p q r s x u z tb) := by
  intro p hp v W W' h hx
  simp only [lrTab3, List.mem_cons, List.not_mem_nil, or_false] at hp
  rcases hp with rfl | rfl | rfl | rfl | rfl | rfl | rfl | rfl | rfl | rfl | rfl | rfl | rfl | rfl | rfl | rfl | rfl | rfl | rfl | rfl | rfl
  all_goals first
    | exact h
    | exact NewP.ext h (hR _ _ hx)

/-- what the slots hold -/
def llTab2 (G : Nat → Prop) (ba bb p q : Nat) (x y tb : Tr) : SoftTab := [(20, fun z9 W => z9 = .pointer (some ⟨ba, 0, none⟩)),
  (21, fun z9 W => z9 = .pointer (some ⟨bb, 0, none⟩)),
  (22, fun z9 W => z9 = .pointer (some ⟨bb, 0, none⟩)),
  (23, fun z9 W => z9 = .pointer (some ⟨bb, 1, none⟩)),
  (24, fun z9 W => z9 = .pointer (some ⟨p, 0, none⟩)),
  (25, fun z9 W => NewP G W z9 (.node tb x)),
  (26, fun z9 W => z9 = .pointer (some ⟨bb, 0, none⟩)),
  (27, fun z9 W => z9 = .pointer (some ⟨bb, 0, none⟩)),
  (28, fun z9 W => z9 = .pointer (some ⟨bb, 2, none⟩)),
  (29, fun z9 W => z9 = .pointer (some ⟨q, 0, none⟩))]
theorem llTab2_mono (G : Nat → Prop) (ba bb p q : Nat) (x y tb : Tr) (Rel : World → World → Prop) (hR : ∀ W W', Rel W W' → Ext W W') : SoftMonoR Rel (llTab2 G ba bb p q x y tb) := by
  intro p hp v W W' h hx
  simp only [llTab2, List.mem_cons, List.not_mem_nil, or_false] at hp
  rcases hp with rfl | rfl | rfl | rfl | rfl | rfl | rfl | rfl | rfl | rfl
  all_goals first
    | exact h
    | exact NewP.ext h (hR _ _ hx)

/-- what the slots hold -/
def llTab3 (G : Nat → Prop) (ba bb p q r s : Nat) (y u z tb : Tr) : SoftTab := [(31, fun z9 W => z9 = .pointer (some ⟨ba, 0, none⟩)),
  (32, fun z9 W => z9 = .pointer (some ⟨bb, 0, none⟩)),
  (33, fun z9 W => z9 = .pointer (some ⟨bb, 0, none⟩)),
  (34, fun z9 W => z9 = .pointer (some ⟨bb, 1, none⟩)),
  (35, fun z9 W => z9 = .pointer (some ⟨p, 0, none⟩)),
  (36, fun z9 W => z9 = .pointer (some ⟨p, 0, none⟩)),
  (37, fun z9 W => z9 = .pointer (some ⟨p, 1, none⟩)),
  (38, fun z9 W => z9 = .pointer (some ⟨r, 0, none⟩)),
  (39, fun z9 W => NewP G W z9 (.node tb u)),
  (40, fun z9 W => z9 = .pointer (some ⟨bb, 0, none⟩)),
  (41, fun z9 W => z9 = .pointer (some ⟨bb, 0, none⟩)),
  (42, fun z9 W => z9 = .pointer (some ⟨bb, 1, none⟩)),
  (43, fun z9 W => z9 = .pointer (some ⟨p, 0, none⟩)),
  (44, fun z9 W => z9 = .pointer (some ⟨p, 0, none⟩)),
  (45, fun z9 W => z9 = .pointer (some ⟨p, 2, none⟩)),
  (46, fun z9 W => z9 = .pointer (some ⟨s, 0, none⟩)),
  (47, fun z9 W => z9 = .pointer (some ⟨bb, 0, none⟩)),
  (48, fun z9 W => z9 = .pointer (some ⟨bb, 0, none⟩)),
  (49, fun z9 W => z9 = .pointer (some ⟨bb, 2, none⟩)),
  (50, fun z9 W => z9 = .pointer (some ⟨q, 0, none⟩)),
  (51, fun z9 W => NewP G W z9 (.node z y))]
theorem llTab3_mono (G : Nat → Prop) (ba bb p q r s : Nat) (y u z tb : Tr) (Rel : World → World → Prop) (hR : ∀ W W', Rel W W' → Ext W W') : SoftMonoR Rel (llTab3 G ba bb p q r s y u z tb) := by
  intro p hp v W W' h hx
  simp only [llTab3, List.mem_cons, List.not_mem_nil, or_false] at hp
  rcases hp with rfl | rfl | rfl | rfl | rfl | rfl | rfl | rfl | rfl | rfl | rfl | rfl | rfl | rfl | rfl | rfl | rfl | rfl | rfl | rfl | rfl
  all_goals first
    | exact h
    | exact NewP.ext h (hR _ _ hx)

set_option maxRecDepth 100000 in
set_option maxHeartbeats 16000000 in
theorem leanR_any {G : Nat → Prop} {ba bb : Nat} {x y tb : Tr} {w : World} (hA : AtP G w ba (.node x y)) (hB : AtP G w bb tb) (hG : Up G w) (ha : okT (.node x y)) (hb0 : okT tb) (hn : cnt (.node x y) + cnt tb ≤ 100000) (hsh : htT x < htT y → ∃ u z, y = .node u z) :
    Calls Try.prog 39 #[Vp ba, Vp bb] w (RetN G w (leanRt (.node x y) tb)) := by
  obtain ⟨p, q, c1, c2, hX, hY⟩ := hA.left
  have g1 := hX.high
  have g2 := hY.high
  rw [cnt_node] at hn
  by_cases hh : htT y ≤ htT x
  · have hd : decide ((htT y : Int) ≤ (htT x : Int)) = true := by rw [decide_eq_true_eq]; omega
    have hres : leanRt (.node x y) tb = .node x (.node y tb) := by simp only [leanRt]; rw [if_pos hh]
    rw [hres]
    clear hres hsh
    generalize htT y = ky at *
    generalize htT x = kx at *
    obtain ⟨hx0, hy0⟩ := ha
    go_enter Try.func39, Try.ntmps39
    go_wp2_with fail
    go_quiet (fail)
    have x1 : Ext w (w.drewN nq) := (Ext.refl w).drewN nq
    have c1 := x1.keep c1
    have c2 := x1.keep c2
    generalize w.drewN nq = w1 at *
    have hj := Lib.hid (fun W (hx : Ext w1 W) => join_any (hY.ext (x1.trans hx)) (hB.ext (x1.trans hx)) (hG.ext (x1.trans hx)) hy0 hb0 (by omega))
    go_wp2_with fail
    refine wp_soft_frame Ext 10 (lrTab2 G ba bb p q x y tb) (by kernel_rfl) (by kernel_rfl) (fun _ _ _ => Ext.trans) ((Ext.refl _).drew) rfl (by show List.Nodup [20, 21, 22, 23, 24, 25, 26, 27, 28, 29]; decide) (by show ∀ d ∈ [20, 21, 22, 23, 24, 25, 26, 27, 28, 29], d < 53; decide) (lrTab2_mono G ba bb p q x y tb Ext (fun _ _ h => h)) ?_ ⟨?_, ?_, ?_, ?_, ?_, ?_, ?_, ?_, ?_, ?_, trivial⟩
    · intro W vs hT hR
      match vs, hT with
      | [v0, v1, v2, v3, v4, v5, v6, v7, v8, v9], ⟨e0, e1, e2, e3, e4, e5, e6, e7, e8, e9, _⟩ =>
        simp only [lrTab2, List.map_cons, List.map_nil, List.zip_cons_cons, List.zip_nil_left, putAll, List.setIfInBounds_toArray, List.set_cons_zero, List.set_cons_succ, List.drop_succ_cons, List.drop_zero]
        simp only at e0 e1 e2 e3 e4 e5 e6 e7 e8
        obtain ⟨q9, e9, h9⟩ := e9
        rw [e0, e1, e2, e3, e4, e5, e6, e7, e8, e9]
        clear e0 e1 e2 e3 e4 e5 e6 e7 e8 e9 v0 v1 v2 v3 v4 v5 v6 v7 v8 v9
        go_wp2_with fail
        refine (join_any (hX.ext (x1.trans hR)) h9 (hG.ext (x1.trans hR)) hx0 ⟨hy0, hb0⟩ (by rw [cnt_node]; omega)).mono ?_
        rintro e w4 ⟨v4, rfl, o4, x4⟩
        go_wp2
        go_ret
        exact ⟨v4, rfl, o4, x1.trans (hR.trans x4)⟩
    · refine softR_val 20 _ (by kernel_rfl) rfl rfl ?_
      intro a W hx hout hdep
      have ev0 : a.tmps[0]?.getD undef = .pointer (some ⟨ba, 0, none⟩) := by rw [← Array.getD_eq_getD_getElem?]; exact hout 0 (by show 0 ∉ [20, 21, 22, 23, 24, 25, 26, 27, 28, 29]; decide)
      refine ⟨rfl, .pointer (some ⟨ba, 0, none⟩), W, ?_, rfl, Ext.refl _⟩
      simp [ev0, execOp, go_sem]
    · refine softR_val 21 _ (by kernel_rfl) rfl rfl ?_
      intro a W hx hout hdep
      have ev20 : a.tmps[20]?.getD undef = .pointer (some ⟨ba, 0, none⟩) := by rw [← Array.getD_eq_getD_getElem?]; exact (hdep ⟨0, .data⟩ (by simp) rfl 20 _ rfl).1
      refine ⟨rfl, .pointer (some ⟨ba, 0, none⟩), W, ?_, rfl, Ext.refl _⟩
      simp [ev20, execOp, go_sem]
    · refine softR_val 22 _ (by kernel_rfl) rfl rfl ?_
      intro a W hx hout hdep
      have ev21 : a.tmps[21]?.getD undef = .pointer (some ⟨ba, 0, none⟩) := by rw [← Array.getD_eq_getD_getElem?]; exact (hdep ⟨1, .data⟩ (by simp) rfl 21 _ rfl).1
      refine ⟨rfl, .pointer (some ⟨ba, 1, none⟩), W, ?_, rfl, Ext.refl _⟩
      simp [ev21, execOp, go_sem]
    · refine softR_val 23 _ (by kernel_rfl) rfl rfl ?_
      intro a W hx hout hdep
      have ev22 : a.tmps[22]?.getD undef = .pointer (some ⟨ba, 1, none⟩) := by rw [← Array.getD_eq_getD_getElem?]; exact (hdep ⟨2, .data⟩ (by simp) rfl 22 _ rfl).1
      have q0 := hx.keep c1
      refine ⟨rfl, .pointer (some ⟨p, 0, none⟩), W, ?_, rfl, Ext.refl _⟩
      simp [ev22, q0, execOp, go_sem]
    · refine softR_val 24 _ (by kernel_rfl) rfl rfl ?_
      intro a W hx hout hdep
      have ev0 : a.tmps[0]?.getD undef = .pointer (some ⟨ba, 0, none⟩) := by rw [← Array.getD_eq_getD_getElem?]; exact hout 0 (by show 0 ∉ [20, 21, 22, 23, 24, 25, 26, 27, 28, 29]; decide)
      refine ⟨rfl, .pointer (some ⟨ba, 0, none⟩), W, ?_, rfl, Ext.refl _⟩
      simp [ev0, execOp, go_sem]
    · refine softR_val 25 _ (by kernel_rfl) rfl rfl ?_
      intro a W hx hout hdep
      have ev24 : a.tmps[24]?.getD undef = .pointer (some ⟨ba, 0, none⟩) := by rw [← Array.getD_eq_getD_getElem?]; exact (hdep ⟨4, .data⟩ (by simp) rfl 24 _ rfl).1
      refine ⟨rfl, .pointer (some ⟨ba, 0, none⟩), W, ?_, rfl, Ext.refl _⟩
      simp [ev24, execOp, go_sem]
    · refine softR_val 26 _ (by kernel_rfl) rfl rfl ?_
      intro a W hx hout hdep
      have ev25 : a.tmps[25]?.getD undef = .pointer (some ⟨ba, 0, none⟩) := by rw [← Array.getD_eq_getD_getElem?]; exact (hdep ⟨5, .data⟩ (by simp) rfl 25 _ rfl).1
      refine ⟨rfl, .pointer (some ⟨ba, 2, none⟩), W, ?_, rfl, Ext.refl _⟩
      simp [ev25, execOp, go_sem]
    · refine softR_val 27 _ (by kernel_rfl) rfl rfl ?_
      intro a W hx hout hdep
      have ev26 : a.tmps[26]?.getD undef = .pointer (some ⟨ba, 2, none⟩) := by rw [← Array.getD_eq_getD_getElem?]; exact (hdep ⟨6, .data⟩ (by simp) rfl 26 _ rfl).1
      have q0 := hx.keep c2
      refine ⟨rfl, .pointer (some ⟨q, 0, none⟩), W, ?_, rfl, Ext.refl _⟩
      simp [ev26, q0, execOp, go_sem]
    · refine softR_val 28 _ (by kernel_rfl) rfl rfl ?_
      intro a W hx hout hdep
      have ev1 : a.tmps[1]?.getD undef = .pointer (some ⟨bb, 0, none⟩) := by rw [← Array.getD_eq_getD_getElem?]; exact hout 1 (by show 1 ∉ [20, 21, 22, 23, 24, 25, 26, 27, 28, 29]; decide)
      refine ⟨rfl, .pointer (some ⟨bb, 0, none⟩), W, ?_, rfl, Ext.refl _⟩
      simp [ev1, execOp, go_sem]
    · refine softR_call 29 _ (by kernel_rfl) rfl rfl ?_
      intro a W hx hout hdep
      have ev27 : a.tmps[27]?.getD undef = .pointer (some ⟨q, 0, none⟩) := by rw [← Array.getD_eq_getD_getElem?]; exact (hdep ⟨7, .data⟩ (by simp) rfl 27 _ rfl).1
      have ev28 : a.tmps[28]?.getD undef = .pointer (some ⟨bb, 0, none⟩) := by rw [← Array.getD_eq_getD_getElem?]; exact (hdep ⟨8, .data⟩ (by simp) rfl 28 _ rfl).1
      refine ⟨rfl, 30, #[.pointer (some ⟨q, 0, none⟩), .pointer (some ⟨bb, 0, none⟩)], ?_, ?_⟩
      · simp [ev27, ev28, execOp, go_sem]
      · exact (hj.out W hx).mono (by rintro e W1 ⟨v, rfl, h1, h2⟩; exact ⟨v, rfl, h1, h2⟩)
  · obtain ⟨u, z, rfl⟩ := hsh (by omega)
    obtain ⟨r, s, d1, d2, hY1, hY2⟩ := hY.left
    have hd : decide ((htT (.node u z) : Int) ≤ (htT x : Int)) = false := by rw [decide_eq_false_iff_not]; omega
    have hres : leanRt (.node x (.node u z)) tb = .node (.node x u) (.node z tb) := by simp only [leanRt]; rw [if_neg hh]
    rw [hres]
    clear hres hsh
    generalize htT (.node u z) = ky at *
    generalize htT x = kx at *
    obtain ⟨hx0, hy0, hz0⟩ := ha
    rw [cnt_node] at hn
    go_enter Try.func39, Try.ntmps39
    go_wp2_with fail
    go_quiet (fail)
    have x1 : Ext w (w.drewN nq) := (Ext.refl w).drewN nq
    have c1 := x1.keep c1
    have c2 := x1.keep c2
    have d1 := x1.keep d1
    have d2 := x1.keep d2
    generalize w.drewN nq = w1 at *
    have hj1 := Lib.hid (fun W (hx : Ext w1 W) => join_any (hX.ext (x1.trans hx)) (hY1.ext (x1.trans hx)) (hG.ext (x1.trans hx)) hx0 hy0 (by omega))
    have hj2 := Lib.hid (fun W (hx : Ext w1 W) => join_any (hY2.ext (x1.trans hx)) (hB.ext (x1.trans hx)) (hG.ext (x1.trans hx)) hz0 hb0 (by omega))
    go_wp2_with fail
    refine wp_soft_frame Ext 21 (lrTab3 G ba bb p q r s x u z tb) (by kernel_rfl) (by kernel_rfl) (fun _ _ _ => Ext.trans) ((Ext.refl _).drew) rfl (by show List.Nodup [31, 32, 33, 34, 35, 36, 37, 38, 39, 40, 41, 42, 43, 44, 45, 46, 47, 48, 49, 50, 51]; decide) (by show ∀ d ∈ [31, 32, 33, 34, 35, 36, 37, 38, 39, 40, 41, 42, 43, 44, 45, 46, 47, 48, 49, 50, 51], d < 53; decide) (lrTab3_mono G ba bb p q r s x u z tb Ext (fun _ _ h => h)) ?_ ⟨?_, ?_, ?_, ?_, ?_, ?_, ?_, ?_, ?_, ?_, ?_, ?_, ?_, ?_, ?_, ?_, ?_, ?_, ?_, ?_, ?_, trivial⟩
    · intro W vs hT hR
      match vs, hT with
      | [v0, v1, v2, v3, v4, v5, v6, v7, v8, v9, v10, v11, v12, v13, v14, v15, v16, v17, v18, v19, v20], ⟨e0, e1, e2, e3, e4, e5, e6, e7, e8, e9, e10, e11, e12, e13, e14, e15, e16, e17, e18, e19, e20, _⟩ =>
        simp only [lrTab3, List.map_cons, List.map_nil, List.zip_cons_cons, List.zip_nil_left, putAll, List.setIfInBounds_toArray, List.set_cons_zero, List.set_cons_succ, List.drop_succ_cons, List.drop_zero]
        simp only at e0 e1 e2 e3 e4 e5 e6 e7 e8 e9 e10 e12 e13 e14 e15 e16 e17 e18 e19
        obtain ⟨q11, e11, h11⟩ := e11
        obtain ⟨q20, e20, h20⟩ := e20
        rw [e0, e1, e2, e3, e4, e5, e6, e7, e8, e9, e10, e11, e12, e13, e14, e15, e16, e17, e18, e19, e20]
        clear e0 e1 e2 e3 e4 e5 e6 e7 e8 e9 e10 e11 e12 e13 e14 e15 e16 e17 e18 e19 e20 v0 v1 v2 v3 v4 v5 v6 v7 v8 v9 v10 v11 v12 v13 v14 v15 v16 v17 v18 v19 v20
        go_wp2_with fail
        refine (join_any h11 h20 (hG.ext (x1.trans hR)) ⟨hx0, hy0⟩ ⟨hz0, hb0⟩ (by rw [cnt_node, cnt_node]; omega)).mono ?_
        rintro e w4 ⟨v4, rfl, o4, x4⟩
        go_wp2
        go_ret
        exact ⟨v4, rfl, o4, x1.trans (hR.trans x4)⟩
    · refine softR_val 31 _ (by kernel_rfl) rfl rfl ?_
      intro a W hx hout hdep
      have ev0 : a.tmps[0]?.getD undef = .pointer (some ⟨ba, 0, none⟩) := by rw [← Array.getD_eq_getD_getElem?]; exact hout 0 (by show 0 ∉ [31, 32, 33, 34, 35, 36, 37, 38, 39, 40, 41, 42, 43, 44, 45, 46, 47, 48, 49, 50, 51]; decide)
      refine ⟨rfl, .pointer (some ⟨ba, 0, none⟩), W, ?_, rfl, Ext.refl _⟩
      simp [ev0, execOp, go_sem]
    · refine softR_val 32 _ (by kernel_rfl) rfl rfl ?_
      intro a W hx hout hdep
      have ev31 : a.tmps[31]?.getD undef = .pointer (some ⟨ba, 0, none⟩) := by rw [← Array.getD_eq_getD_getElem?]; exact (hdep ⟨0, .data⟩ (by simp) rfl 31 _ rfl).1
      refine ⟨rfl, .pointer (some ⟨ba, 0, none⟩), W, ?_, rfl, Ext.refl _⟩
      simp [ev31, execOp, go_sem]
    · refine softR_val 33 _ (by kernel_rfl) rfl rfl ?_
      intro a W hx hout hdep
      have ev32 : a.tmps[32]?.getD undef = .pointer (some ⟨ba, 0, none⟩) := by rw [← Array.getD_eq_getD_getElem?]; exact (hdep ⟨1, .data⟩ (by simp) rfl 32 _ rfl).1
      refine ⟨rfl, .pointer (some ⟨ba, 1, none⟩), W, ?_, rfl, Ext.refl _⟩
      simp [ev32, execOp, go_sem]
    · refine softR_val 34 _ (by kernel_rfl) rfl rfl ?_
      intro a W hx hout hdep
      have ev33 : a.tmps[33]?.getD undef = .pointer (some ⟨ba, 1, none⟩) := by rw [← Array.getD_eq_getD_getElem?]; exact (hdep ⟨2, .data⟩ (by simp) rfl 33 _ rfl).1
      have q0 := hx.keep c1
      refine ⟨rfl, .pointer (some ⟨p, 0, none⟩), W, ?_, rfl, Ext.refl _⟩
      simp [ev33, q0, execOp, go_sem]
    · refine softR_val 35 _ (by kernel_rfl) rfl rfl ?_
      intro a W hx hout hdep
      have ev0 : a.tmps[0]?.getD undef = .pointer (some ⟨ba, 0, none⟩) := by rw [← Array.getD_eq_getD_getElem?]; exact hout 0 (by show 0 ∉ [31, 32, 33, 34, 35, 36, 37, 38, 39, 40, 41, 42, 43, 44, 45, 46, 47, 48, 49, 50, 51]; decide)
      refine ⟨rfl, .pointer (some ⟨ba, 0, none⟩), W, ?_, rfl, Ext.refl _⟩
      simp [ev0, execOp, go_sem]
    · refine softR_val 36 _ (by kernel_rfl) rfl rfl ?_
      intro a W hx hout hdep
      have ev35 : a.tmps[35]?.getD undef = .pointer (some ⟨ba, 0, none⟩) := by rw [← Array.getD_eq_getD_getElem?]; exact (hdep ⟨4, .data⟩ (by simp) rfl 35 _ rfl).1
      refine ⟨rfl, .pointer (some ⟨ba, 0, none⟩), W, ?_, rfl, Ext.refl _⟩
      simp [ev35, execOp, go_sem]
    · refine softR_val 37 _ (by kernel_rfl) rfl rfl ?_
      intro a W hx hout hdep
      have ev36 : a.tmps[36]?.getD undef = .pointer (some ⟨ba, 0, none⟩) := by rw [← Array.getD_eq_getD_getElem?]; exact (hdep ⟨5, .data⟩ (by simp) rfl 36 _ rfl).1
      refine ⟨rfl, .pointer (some ⟨ba, 2, none⟩), W, ?_, rfl, Ext.refl _⟩
      simp [ev36, execOp, go_sem]
    · refine softR_val 38 _ (by kernel_rfl) rfl rfl ?_
      intro a W hx hout hdep
      have ev37 : a.tmps[37]?.getD undef = .pointer (some ⟨ba, 2, none⟩) := by rw [← Array.getD_eq_getD_getElem?]; exact (hdep ⟨6, .data⟩ (by simp) rfl 37 _ rfl).1
      have q0 := hx.keep c2
      refine ⟨rfl, .pointer (some ⟨q, 0, none⟩), W, ?_, rfl, Ext.refl _⟩
      simp [ev37, q0, execOp, go_sem]
    · refine softR_val 39 _ (by kernel_rfl) rfl rfl ?_
      intro a W hx hout hdep
      have ev38 : a.tmps[38]?.getD undef = .pointer (some ⟨q, 0, none⟩) := by rw [← Array.getD_eq_getD_getElem?]; exact (hdep ⟨7, .data⟩ (by simp) rfl 38 _ rfl).1
      refine ⟨rfl, .pointer (some ⟨q, 0, none⟩), W, ?_, rfl, Ext.refl _⟩
      simp [ev38, execOp, go_sem]
    · refine softR_val 40 _ (by kernel_rfl) rfl rfl ?_
      intro a W hx hout hdep
      have ev39 : a.tmps[39]?.getD undef = .pointer (some ⟨q, 0, none⟩) := by rw [← Array.getD_eq_getD_getElem?]; exact (hdep ⟨8, .data⟩ (by simp) rfl 39 _ rfl).1
      refine ⟨rfl, .pointer (some ⟨q, 1, none⟩), W, ?_, rfl, Ext.refl _⟩
      simp [ev39, execOp, go_sem]
    · refine softR_val 41 _ (by kernel_rfl) rfl rfl ?_
      intro a W hx hout hdep
      have ev40 : a.tmps[40]?.getD undef = .pointer (some ⟨q, 1, none⟩) := by rw [← Array.getD_eq_getD_getElem?]; exact (hdep ⟨9, .data⟩ (by simp) rfl 40 _ rfl).1
      have q0 := hx.keep d1
      refine ⟨rfl, .pointer (some ⟨r, 0, none⟩), W, ?_, rfl, Ext.refl _⟩
      simp [ev40, q0, execOp, go_sem]
    · refine softR_call 42 _ (by kernel_rfl) rfl rfl ?_
      intro a W hx hout hdep
      have ev34 : a.tmps[34]?.getD undef = .pointer (some ⟨p, 0, none⟩) := by rw [← Array.getD_eq_getD_getElem?]; exact (hdep ⟨3, .data⟩ (by simp) rfl 34 _ rfl).1
      have ev41 : a.tmps[41]?.getD undef = .pointer (some ⟨r, 0, none⟩) := by rw [← Array.getD_eq_getD_getElem?]; exact (hdep ⟨10, .data⟩ (by simp) rfl 41 _ rfl).1
      refine ⟨rfl, 30, #[.pointer (some ⟨p, 0, none⟩), .pointer (some ⟨r, 0, none⟩)], ?_, ?_⟩
      · simp [ev34, ev41, execOp, go_sem]
      · exact (hj1.out W hx).mono (by rintro e W1 ⟨v, rfl, h1, h2⟩; exact ⟨v, rfl, h1, h2⟩)
    · refine softR_val 43 _ (by kernel_rfl) rfl rfl ?_
      intro a W hx hout hdep
      have ev0 : a.tmps[0]?.getD undef = .pointer (some ⟨ba, 0, none⟩) := by rw [← Array.getD_eq_getD_getElem?]; exact hout 0 (by show 0 ∉ [31, 32, 33, 34, 35, 36, 37, 38, 39, 40, 41, 42, 43, 44, 45, 46, 47, 48, 49, 50, 51]; decide)
      refine ⟨rfl, .pointer (some ⟨ba, 0, none⟩), W, ?_, rfl, Ext.refl _⟩
      simp [ev0, execOp, go_sem]
    · refine softR_val 44 _ (by kernel_rfl) rfl rfl ?_
      intro a W hx hout hdep
      have ev43 : a.tmps[43]?.getD undef = .pointer (some ⟨ba, 0, none⟩) := by rw [← Array.getD_eq_getD_getElem?]; exact (hdep ⟨12, .data⟩ (by simp) rfl 43 _ rfl).1
      refine ⟨rfl, .pointer (some ⟨ba, 0, none⟩), W, ?_, rfl, Ext.refl _⟩
      simp [ev43, execOp, go_sem]
    · refine softR_val 45 _ (by kernel_rfl) rfl rfl ?_
      intro a W hx hout hdep
      have ev44 : a.tmps[44]?.getD undef = .pointer (some ⟨ba, 0, none⟩) := by rw [← Array.getD_eq_getD_getElem?]; exact (hdep ⟨13, .data⟩ (by simp) rfl 44 _ rfl).1
      refine ⟨rfl, .pointer (some ⟨ba, 2, none⟩), W, ?_, rfl, Ext.refl _⟩
      simp [ev44, execOp, go_sem]
    · refine softR_val 46 _ (by kernel_rfl) rfl rfl ?_
      intro a W hx hout hdep
      have ev45 : a.tmps[45]?.getD undef = .pointer (some ⟨ba, 2, none⟩) := by rw [← Array.getD_eq_getD_getElem?]; exact (hdep ⟨14, .data⟩ (by simp) rfl 45 _ rfl).1
      have q0 := hx.keep c2
      refine ⟨rfl, .pointer (some ⟨q, 0, none⟩), W, ?_, rfl, Ext.refl _⟩
      simp [ev45, q0, execOp, go_sem]
    · refine softR_val 47 _ (by kernel_rfl) rfl rfl ?_
      intro a W hx hout hdep
      have ev46 : a.tmps[46]?.getD undef = .pointer (some ⟨q, 0, none⟩) := by rw [← Array.getD_eq_getD_getElem?]; exact (hdep ⟨15, .data⟩ (by simp) rfl 46 _ rfl).1
      refine ⟨rfl, .pointer (some ⟨q, 0, none⟩), W, ?_, rfl, Ext.refl _⟩
      simp [ev46, execOp, go_sem]
    · refine softR_val 48 _ (by kernel_rfl) rfl rfl ?_
      intro a W hx hout hdep
      have ev47 : a.tmps[47]?.getD undef = .pointer (some ⟨q, 0, none⟩) := by rw [← Array.getD_eq_getD_getElem?]; exact (hdep ⟨16, .data⟩ (by simp) rfl 47 _ rfl).1
      refine ⟨rfl, .pointer (some ⟨q, 2, none⟩), W, ?_, rfl, Ext.refl _⟩
      simp [ev47, execOp, go_sem]
    · refine softR_val 49 _ (by kernel_rfl) rfl rfl ?_
      intro a W hx hout hdep
      have ev48 : a.tmps[48]?.getD undef = .pointer (some ⟨q, 2, none⟩) := by rw [← Array.getD_eq_getD_getElem?]; exact (hdep ⟨17, .data⟩ (by simp) rfl 48 _ rfl).1
      have q0 := hx.keep d2
      refine ⟨rfl, .pointer (some ⟨s, 0, none⟩), W, ?_, rfl, Ext.refl _⟩
      simp [ev48, q0, execOp, go_sem]
    · refine softR_val 50 _ (by kernel_rfl) rfl rfl ?_
      intro a W hx hout hdep
      have ev1 : a.tmps[1]?.getD undef = .pointer (some ⟨bb, 0, none⟩) := by rw [← Array.getD_eq_getD_getElem?]; exact hout 1 (by show 1 ∉ [31, 32, 33, 34, 35, 36, 37, 38, 39, 40, 41, 42, 43, 44, 45, 46, 47, 48, 49, 50, 51]; decide)
      refine ⟨rfl, .pointer (some ⟨bb, 0, none⟩), W, ?_, rfl, Ext.refl _⟩
      simp [ev1, execOp, go_sem]
    · refine softR_call 51 _ (by kernel_rfl) rfl rfl ?_
      intro a W hx hout hdep
      have ev49 : a.tmps[49]?.getD undef = .pointer (some ⟨s, 0, none⟩) := by rw [← Array.getD_eq_getD_getElem?]; exact (hdep ⟨18, .data⟩ (by simp) rfl 49 _ rfl).1
      have ev50 : a.tmps[50]?.getD undef = .pointer (some ⟨bb, 0, none⟩) := by rw [← Array.getD_eq_getD_getElem?]; exact (hdep ⟨19, .data⟩ (by simp) rfl 50 _ rfl).1
      refine ⟨rfl, 30, #[.pointer (some ⟨s, 0, none⟩), .pointer (some ⟨bb, 0, none⟩)], ?_, ?_⟩
      · simp [ev49, ev50, execOp, go_sem]
      · exact (hj2.out W hx).mono (by rintro e W1 ⟨v, rfl, h1, h2⟩; exact ⟨v, rfl, h1, h2⟩)

set_option maxRecDepth 100000 in
set_option maxHeartbeats 16000000 in
theorem leanL_any {G : Nat → Prop} {ba bb : Nat} {x y tb : Tr} {w : World} (hA : AtP G w ba tb) (hB : AtP G w bb (.node x y)) (hG : Up G w) (hb0 : okT tb) (ha : okT (.node x y)) (hn : cnt tb + cnt (.node x y) ≤ 100000) (hsh : htT y < htT x → ∃ u z, x = .node u z) :
    Calls Try.prog 40 #[Vp ba, Vp bb] w (RetN G w (leanLt tb (.node x y))) := by
  obtain ⟨p, q, c1, c2, hX, hY⟩ := hB.left
  have g1 := hX.high
  have g2 := hY.high
  rw [cnt_node] at hn
  by_cases hh : htT x ≤ htT y
  · have hd : decide ((htT x : Int) ≤ (htT y : Int)) = true := by rw [decide_eq_true_eq]; omega
    have hres : leanLt tb (.node x y) = .node (.node tb x) y := by simp only [leanLt]; rw [if_pos hh]
    rw [hres]
    clear hres hsh
    generalize htT y = ky at *
    generalize htT x = kx at *
    obtain ⟨hx0, hy0⟩ := ha
    go_enter Try.func40, Try.ntmps40
    go_wp2_with fail
    go_quiet (fail)
    have x1 : Ext w (w.drewN nq) := (Ext.refl w).drewN nq
    have c1 := x1.keep c1
    have c2 := x1.keep c2
    generalize w.drewN nq = w1 at *
    have hj := Lib.hid (fun W (hx : Ext w1 W) => join_any (hA.ext (x1.trans hx)) (hX.ext (x1.trans hx)) (hG.ext (x1.trans hx)) hb0 hx0 (by omega))
    go_wp2_with fail
    refine wp_soft_frame Ext 10 (llTab2 G ba bb p q x y tb) (by kernel_rfl) (by kernel_rfl) (fun _ _ _ => Ext.trans) ((Ext.refl _).drew) rfl (by show List.Nodup [20, 21, 22, 23, 24, 25, 26, 27, 28, 29]; decide) (by show ∀ d ∈ [20, 21, 22, 23, 24, 25, 26, 27, 28, 29], d < 53; decide) (llTab2_mono G ba bb p q x y tb Ext (fun _ _ h => h)) ?_ ⟨?_, ?_, ?_, ?_, ?_, ?_, ?_, ?_, ?_, ?_, trivial⟩
    · intro W vs hT hR
      match vs, hT with
      | [v0, v1, v2, v3, v4, v5, v6, v7, v8, v9], ⟨e0, e1, e2, e3, e4, e5, e6, e7, e8, e9, _⟩ =>
        simp only [llTab2, List.map_cons, List.map_nil, List.zip_cons_cons, List.zip_nil_left, putAll, List.setIfInBounds_toArray, List.set_cons_zero, List.set_cons_succ, List.drop_succ_cons, List.drop_zero]
        simp only at e0 e1 e2 e3 e4 e6 e7 e8 e9
        obtain ⟨q5, e5, h5⟩ := e5
        rw [e0, e1, e2, e3, e4, e5, e6, e7, e8, e9]
        clear e0 e1 e2 e3 e4 e5 e6 e7 e8 e9 v0 v1 v2 v3 v4 v5 v6 v7 v8 v9
        go_wp2_with fail
        refine (join_any h5 (hY.ext (x1.trans hR)) (hG.ext (x1.trans hR)) ⟨hb0, hx0⟩ hy0 (by rw [cnt_node]; omega)).mono ?_
        rintro e w4 ⟨v4, rfl, o4, x4⟩
        go_wp2
        go_ret
        exact ⟨v4, rfl, o4, x1.trans (hR.trans x4)⟩
    · refine softR_val 20 _ (by kernel_rfl) rfl rfl ?_
      intro a W hx hout hdep
      have ev0 : a.tmps[0]?.getD undef = .pointer (some ⟨ba, 0, none⟩) := by rw [← Array.getD_eq_getD_getElem?]; exact hout 0 (by show 0 ∉ [20, 21, 22, 23, 24, 25, 26, 27, 28, 29]; decide)
      refine ⟨rfl, .pointer (some ⟨ba, 0, none⟩), W, ?_, rfl, Ext.refl _⟩
      simp [ev0, execOp, go_sem]
    · refine softR_val 21 _ (by kernel_rfl) rfl rfl ?_
      intro a W hx hout hdep
      have ev1 : a.tmps[1]?.getD undef = .pointer (some ⟨bb, 0, none⟩) := by rw [← Array.getD_eq_getD_getElem?]; exact hout 1 (by show 1 ∉ [20, 21, 22, 23, 24, 25, 26, 27, 28, 29]; decide)
      refine ⟨rfl, .pointer (some ⟨bb, 0, none⟩), W, ?_, rfl, Ext.refl _⟩
      simp [ev1, execOp, go_sem]
    · refine softR_val 22 _ (by kernel_rfl) rfl rfl ?_
      intro a W hx hout hdep
      have ev21 : a.tmps[21]?.getD undef = .pointer (some ⟨bb, 0, none⟩) := by rw [← Array.getD_eq_getD_getElem?]; exact (hdep ⟨1, .data⟩ (by simp) rfl 21 _ rfl).1
      refine ⟨rfl, .pointer (some ⟨bb, 0, none⟩), W, ?_, rfl, Ext.refl _⟩
      simp [ev21, execOp, go_sem]
    · refine softR_val 23 _ (by kernel_rfl) rfl rfl ?_
      intro a W hx hout hdep
      have ev22 : a.tmps[22]?.getD undef = .pointer (some ⟨bb, 0, none⟩) := by rw [← Array.getD_eq_getD_getElem?]; exact (hdep ⟨2, .data⟩ (by simp) rfl 22 _ rfl).1
      refine ⟨rfl, .pointer (some ⟨bb, 1, none⟩), W, ?_, rfl, Ext.refl _⟩
      simp [ev22, execOp, go_sem]
    · refine softR_val 24 _ (by kernel_rfl) rfl rfl ?_
      intro a W hx hout hdep
      have ev23 : a.tmps[23]?.getD undef = .pointer (some ⟨bb, 1, none⟩) := by rw [← Array.getD_eq_getD_getElem?]; exact (hdep ⟨3, .data⟩ (by simp) rfl 23 _ rfl).1
      have q0 := hx.keep c1
      refine ⟨rfl, .pointer (some ⟨p, 0, none⟩), W, ?_, rfl, Ext.refl _⟩
      simp [ev23, q0, execOp, go_sem]
    · refine softR_call 25 _ (by kernel_rfl) rfl rfl ?_
      intro a W hx hout hdep
      have ev20 : a.tmps[20]?.getD undef = .pointer (some ⟨ba, 0, none⟩) := by rw [← Array.getD_eq_getD_getElem?]; exact (hdep ⟨0, .data⟩ (by simp) rfl 20 _ rfl).1
      have ev24 : a.tmps[24]?.getD undef = .pointer (some ⟨p, 0, none⟩) := by rw [← Array.getD_eq_getD_getElem?]; exact (hdep ⟨4, .data⟩ (by simp) rfl 24 _ rfl).1
      refine ⟨rfl, 30, #[.pointer (some ⟨ba, 0, none⟩), .pointer (some ⟨p, 0, none⟩)], ?_, ?_⟩
      · simp [ev20, ev24, execOp, go_sem]
      · exact (hj.out W hx).mono (by rintro e W1 ⟨v, rfl, h1, h2⟩; exact ⟨v, rfl, h1, h2⟩)
    · refine softR_val 26 _ (by kernel_rfl) rfl rfl ?_
      intro a W hx hout hdep
      have ev1 : a.tmps[1]?.getD undef = .pointer (some ⟨bb, 0, none⟩) := by rw [← Array.getD_eq_getD_getElem?]; exact hout 1 (by show 1 ∉ [20, 21, 22, 23, 24, 25, 26, 27, 28, 29]; decide)
      refine ⟨rfl, .pointer (some ⟨bb, 0, none⟩), W, ?_, rfl, Ext.refl _⟩
      simp [ev1, execOp, go_sem]
    · refine softR_val 27 _ (by kernel_rfl) rfl rfl ?_
      intro a W hx hout hdep
      have ev26 : a.tmps[26]?.getD undef = .pointer (some ⟨bb, 0, none⟩) := by rw [← Array.getD_eq_getD_getElem?]; exact (hdep ⟨6, .data⟩ (by simp) rfl 26 _ rfl).1
      refine ⟨rfl, .pointer (some ⟨bb, 0, none⟩), W, ?_, rfl, Ext.refl _⟩
      simp [ev26, execOp, go_sem]
    · refine softR_val 28 _ (by kernel_rfl) rfl rfl ?_
      intro a W hx hout hdep
      have ev27 : a.tmps[27]?.getD undef = .pointer (some ⟨bb, 0, none⟩) := by rw [← Array.getD_eq_getD_getElem?]; exact (hdep ⟨7, .data⟩ (by simp) rfl 27 _ rfl).1
      refine ⟨rfl, .pointer (some ⟨bb, 2, none⟩), W, ?_, rfl, Ext.refl _⟩
      simp [ev27, execOp, go_sem]
    · refine softR_val 29 _ (by kernel_rfl) rfl rfl ?_
      intro a W hx hout hdep
      have ev28 : a.tmps[28]?.getD undef = .pointer (some ⟨bb, 2, none⟩) := by rw [← Array.getD_eq_getD_getElem?]; exact (hdep ⟨8, .data⟩ (by simp) rfl 28 _ rfl).1
      have q0 := hx.keep c2
      refine ⟨rfl, .pointer (some ⟨q, 0, none⟩), W, ?_, rfl, Ext.refl _⟩
      simp [ev28, q0, execOp, go_sem]
  · obtain ⟨u, z, rfl⟩ := hsh (by omega)
    obtain ⟨r, s, d1, d2, hX1, hX2⟩ := hX.left
    have hd : decide ((htT (.node u z) : Int) ≤ (htT y : Int)) = false := by rw [decide_eq_false_iff_not]; omega
    have hres : leanLt tb (.node (.node u z) y) = .node (.node tb u) (.node z y) := by simp only [leanLt]; rw [if_neg hh]
    rw [hres]
    clear hres hsh
    generalize htT (.node u z) = kx at *
    generalize htT y = ky at *
    obtain ⟨⟨hx0, hy0⟩, hz0⟩ := ha
    rw [cnt_node] at hn
    go_enter Try.func40, Try.ntmps40
    go_wp2_with fail
    go_quiet (fail)
    have x1 : Ext w (w.drewN nq) := (Ext.refl w).drewN nq
    have c1 := x1.keep c1
    have c2 := x1.keep c2
    have d1 := x1.keep d1
    have d2 := x1.keep d2
    generalize w.drewN nq = w1 at *
    have hj1 := Lib.hid (fun W (hx : Ext w1 W) => join_any (hA.ext (x1.trans hx)) (hX1.ext (x1.trans hx)) (hG.ext (x1.trans hx)) hb0 hx0 (by omega))
    have hj2 := Lib.hid (fun W (hx : Ext w1 W) => join_any (hX2.ext (x1.trans hx)) (hY.ext (x1.trans hx)) (hG.ext (x1.trans hx)) hy0 hz0 (by omega))
    go_wp2_with fail
    refine wp_soft_frame Ext 21 (llTab3 G ba bb p q r s y u z tb) (by kernel_rfl) (by kernel_rfl) (fun _ _ _ => Ext.trans) ((Ext.refl _).drew) rfl (by show List.Nodup [31, 32, 33, 34, 35, 36, 37, 38, 39, 40, 41, 42, 43, 44, 45, 46, 47, 48, 49, 50, 51]; decide) (by show ∀ d ∈ [31, 32, 33, 34, 35, 36, 37, 38, 39, 40, 41, 42, 43, 44, 45, 46, 47, 48, 49, 50, 51], d < 53; decide) (llTab3_mono G ba bb p q r s y u z tb Ext (fun _ _ h => h)) ?_ ⟨?_, ?_, ?_, ?_, ?_, ?_, ?_, ?_, ?_, ?_, ?_, ?_, ?_, ?_, ?_, ?_, ?_, ?_, ?_, ?_, ?_, trivial⟩
    · intro W vs hT hR
      match vs, hT with
      | [v0, v1, v2, v3, v4, v5, v6, v7, v8, v9, v10, v11, v12, v13, v14, v15, v16, v17, v18, v19, v20], ⟨e0, e1, e2, e3, e4, e5, e6, e7, e8, e9, e10, e11, e12, e13, e14, e15, e16, e17, e18, e19, e20, _⟩ =>
        simp only [llTab3, List.map_cons, List.map_nil, List.zip_cons_cons, List.zip_nil_left, putAll, List.setIfInBounds_toArray, List.set_cons_zero, List.set_cons_succ, List.drop_succ_cons, List.drop_zero]
        simp only at e0 e1 e2 e3 e4 e5 e6 e7 e9 e10 e11 e12 e13 e14 e15 e16 e17 e18 e19
        obtain ⟨q8, e8, h8⟩ := e8
        obtain ⟨q20, e20, h20⟩ := e20
        rw [e0, e1, e2, e3, e4, e5, e6, e7, e8, e9, e10, e11, e12, e13, e14, e15, e16, e17, e18, e19, e20]
        clear e0 e1 e2 e3 e4 e5 e6 e7 e8 e9 e10 e11 e12 e13 e14 e15 e16 e17 e18 e19 e20 v0 v1 v2 v3 v4 v5 v6 v7 v8 v9 v10 v11 v12 v13 v14 v15 v16 v17 v18 v19 v20
        go_wp2_with fail
        refine (join_any h8 h20 (hG.ext (x1.trans hR)) ⟨hb0, hx0⟩ ⟨hy0, hz0⟩ (by rw [cnt_node, cnt_node]; omega)).mono ?_
        rintro e w4 ⟨v4, rfl, o4, x4⟩
        go_wp2
        go_ret
        exact ⟨v4, rfl, o4, x1.trans (hR.trans x4)⟩
    · refine softR_val 31 _ (by kernel_rfl) rfl rfl ?_
      intro a W hx hout hdep
      have ev0 : a.tmps[0]?.getD undef = .pointer (some ⟨ba, 0, none⟩) := by rw [← Array.getD_eq_getD_getElem?]; exact hout 0 (by show 0 ∉ [31, 32, 33, 34, 35, 36, 37, 38, 39, 40, 41, 42, 43, 44, 45, 46, 47, 48, 49, 50, 51]; decide)
      refine ⟨rfl, .pointer (some ⟨ba, 0, none⟩), W, ?_, rfl, Ext.refl _⟩
      simp [ev0, execOp, go_sem]
    · refine softR_val 32 _ (by kernel_rfl) rfl rfl ?_
      intro a W hx hout hdep
      have ev1 : a.tmps[1]?.getD undef = .pointer (some ⟨bb, 0, none⟩) := by rw [← Array.getD_eq_getD_getElem?]; exact hout 1 (by show 1 ∉ [31, 32, 33, 34, 35, 36, 37, 38, 39, 40, 41, 42, 43, 44, 45, 46, 47, 48, 49, 50, 51]; decide)
      refine ⟨rfl, .pointer (some ⟨bb, 0, none⟩), W, ?_, rfl, Ext.refl _⟩
      simp [ev1, execOp, go_sem]
    · refine softR_val 33 _ (by kernel_rfl) rfl rfl ?_
      intro a W hx hout hdep
      have ev32 : a.tmps[32]?.getD undef = .pointer (some ⟨bb, 0, none⟩) := by rw [← Array.getD_eq_getD_getElem?]; exact (hdep ⟨1, .data⟩ (by simp) rfl 32 _ rfl).1
      refine ⟨rfl, .pointer (some ⟨bb, 0, none⟩), W, ?_, rfl, Ext.refl _⟩
      simp [ev32, execOp, go_sem]
    · refine softR_val 34 _ (by kernel_rfl) rfl rfl ?_
      intro a W hx hout hdep
      have ev33 : a.tmps[33]?.getD undef = .pointer (some ⟨bb, 0, none⟩) := by rw [← Array.getD_eq_getD_getElem?]; exact (hdep ⟨2, .data⟩ (by simp) rfl 33 _ rfl).1
      refine ⟨rfl, .pointer (some ⟨bb, 1, none⟩), W, ?_, rfl, Ext.refl _⟩
      simp [ev33, execOp, go_sem]
    · refine softR_val 35 _ (by kernel_rfl) rfl rfl ?_
      intro a W hx hout hdep
      have ev34 : a.tmps[34]?.getD undef = .pointer (some ⟨bb, 1, none⟩) := by rw [← Array.getD_eq_getD_getElem?]; exact (hdep ⟨3, .data⟩ (by simp) rfl 34 _ rfl).1
      have q0 := hx.keep c1
      refine ⟨rfl, .pointer (some ⟨p, 0, none⟩), W, ?_, rfl, Ext.refl _⟩
      simp [ev34, q0, execOp, go_sem]
    · refine softR_val 36 _ (by kernel_rfl) rfl rfl ?_
      intro a W hx hout hdep
      have ev35 : a.tmps[35]?.getD undef = .pointer (some ⟨p, 0, none⟩) := by rw [← Array.getD_eq_getD_getElem?]; exact (hdep ⟨4, .data⟩ (by simp) rfl 35 _ rfl).1
      refine ⟨rfl, .pointer (some ⟨p, 0, none⟩), W, ?_, rfl, Ext.refl _⟩
      simp [ev35, execOp, go_sem]
    · refine softR_val 37 _ (by kernel_rfl) rfl rfl ?_
      intro a W hx hout hdep
      have ev36 : a.tmps[36]?.getD undef = .pointer (some ⟨p, 0, none⟩) := by rw [← Array.getD_eq_getD_getElem?]; exact (hdep ⟨5, .data⟩ (by simp) rfl 36 _ rfl).1
      refine ⟨rfl, .pointer (some ⟨p, 1, none⟩), W, ?_, rfl, Ext.refl _⟩
      simp [ev36, execOp, go_sem]
    · refine softR_val 38 _ (by kernel_rfl) rfl rfl ?_
      intro a W hx hout hdep
      have ev37 : a.tmps[37]?.getD undef = .pointer (some ⟨p, 1, none⟩) := by rw [← Array.getD_eq_getD_getElem?]; exact (hdep ⟨6, .data⟩ (by simp) rfl 37 _ rfl).1
      have q0 := hx.keep d1
      refine ⟨rfl, .pointer (some ⟨r, 0, none⟩), W, ?_, rfl, Ext.refl _⟩
      simp [ev37, q0, execOp, go_sem]
    · refine softR_call 39 _ (by kernel_rfl) rfl rfl ?_
      intro a W hx hout hdep
      have ev31 : a.tmps[31]?.getD undef = .pointer (some ⟨ba, 0, none⟩) := by rw [← Array.getD_eq_getD_getElem?]; exact (hdep ⟨0, .data⟩ (by simp) rfl 31 _ rfl).1
      have ev38 : a.tmps[38]?.getD undef = .pointer (some ⟨r, 0, none⟩) := by rw [← Array.getD_eq_getD_getElem?]; exact (hdep ⟨7, .data⟩ (by simp) rfl 38 _ rfl).1
      refine ⟨rfl, 30, #[.pointer (some ⟨ba, 0, none⟩), .pointer (some ⟨r, 0, none⟩)], ?_, ?_⟩
      · simp [ev31, ev38, execOp, go_sem]
      · exact (hj1.out W hx).mono (by rintro e W1 ⟨v, rfl, h1, h2⟩; exact ⟨v, rfl, h1, h2⟩)
    · refine softR_val 40 _ (by kernel_rfl) rfl rfl ?_
      intro a W hx hout hdep
      have ev1 : a.tmps[1]?.getD undef = .pointer (some ⟨bb, 0, none⟩) := by rw [← Array.getD_eq_getD_getElem?]; exact hout 1 (by show 1 ∉ [31, 32, 33, 34, 35, 36, 37, 38, 39, 40, 41, 42, 43, 44, 45, 46, 47, 48, 49, 50, 51]; decide)
      refine ⟨rfl, .pointer (some ⟨bb, 0, none⟩), W, ?_, rfl, Ext.refl _⟩
      simp [ev1, execOp, go_sem]
    · refine softR_val 41 _ (by kernel_rfl) rfl rfl ?_
      intro a W hx hout hdep
      have ev40 : a.tmps[40]?.getD undef = .pointer (some ⟨bb, 0, none⟩) := by rw [← Array.getD_eq_getD_getElem?]; exact (hdep ⟨9, .data⟩ (by simp) rfl 40 _ rfl).1
      refine ⟨rfl, .pointer (some ⟨bb, 0, none⟩), W, ?_, rfl, Ext.refl _⟩
      simp [ev40, execOp, go_sem]
    · refine softR_val 42 _ (by kernel_rfl) rfl rfl ?_
      intro a W hx hout hdep
      have ev41 : a.tmps[41]?.getD undef = .pointer (some ⟨bb, 0, none⟩) := by rw [← Array.getD_eq_getD_getElem?]; exact (hdep ⟨10, .data⟩ (by simp) rfl 41 _ rfl).1
      refine ⟨rfl, .pointer (some ⟨bb, 1, none⟩), W, ?_, rfl, Ext.refl _⟩
      simp [ev41, execOp, go_sem]
    · refine softR_val 43 _ (by kernel_rfl) rfl rfl ?_
      intro a W hx hout hdep
      have ev42 : a.tmps[42]?.getD undef = .pointer (some ⟨bb, 1, none⟩) := by rw [← Array.getD_eq_getD_getElem?]; exact (hdep ⟨11, .data⟩ (by simp) rfl 42 _ rfl).1
      have q0 := hx.keep c1
      refine ⟨rfl, .pointer (some ⟨p, 0, none⟩), W, ?_, rfl, Ext.refl _⟩
      simp [ev42, q0, execOp, go_sem]
    · refine softR_val 44 _ (by kernel_rfl) rfl rfl ?_
      intro a W hx hout hdep
      have ev43 : a.tmps[43]?.getD undef = .pointer (some ⟨p, 0, none⟩) := by rw [← Array.getD_eq_getD_getElem?]; exact (hdep ⟨12, .data⟩ (by simp) rfl 43 _ rfl).1
      refine ⟨rfl, .pointer (some ⟨p, 0, none⟩), W, ?_, rfl, Ext.refl _⟩
      simp [ev43, execOp, go_sem]
    · refine softR_val 45 _ (by kernel_rfl) rfl rfl ?_
      intro a W hx hout hdep
      have ev44 : a.tmps[44]?.getD undef = .pointer (some ⟨p, 0, none⟩) := by rw [← Array.getD_eq_getD_getElem?]; exact (hdep ⟨13, .data⟩ (by simp) rfl 44 _ rfl).1
      refine ⟨rfl, .pointer (some ⟨p, 2, none⟩), W, ?_, rfl, Ext.refl _⟩
      simp [ev44, execOp, go_sem]
    · refine softR_val 46 _ (by kernel_rfl) rfl rfl ?_
      intro a W hx hout hdep
      have ev45 : a.tmps[45]?.getD undef = .pointer (some ⟨p, 2, none⟩) := by rw [← Array.getD_eq_getD_getElem?]; exact (hdep ⟨14, .data⟩ (by simp) rfl 45 _ rfl).1
      have q0 := hx.keep d2
      refine ⟨rfl, .pointer (some ⟨s, 0, none⟩), W, ?_, rfl, Ext.refl _⟩
      simp [ev45, q0, execOp, go_sem]
    · refine softR_val 47 _ (by kernel_rfl) rfl rfl ?_
      intro a W hx hout hdep
      have ev1 : a.tmps[1]?.getD undef = .pointer (some ⟨bb, 0, none⟩) := by rw [← Array.getD_eq_getD_getElem?]; exact hout 1 (by show 1 ∉ [31, 32, 33, 34, 35, 36, 37, 38, 39, 40, 41, 42, 43, 44, 45, 46, 47, 48, 49, 50, 51]; decide)
      refine ⟨rfl, .pointer (some ⟨bb, 0, none⟩), W, ?_, rfl, Ext.refl _⟩
      simp [ev1, execOp, go_sem]
    · refine softR_val 48 _ (by kernel_rfl) rfl rfl ?_
      intro a W hx hout hdep
      have ev47 : a.tmps[47]?.getD undef = .pointer (some ⟨bb, 0, none⟩) := by rw [← Array.getD_eq_getD_getElem?]; exact (hdep ⟨16, .data⟩ (by simp) rfl 47 _ rfl).1
      refine ⟨rfl, .pointer (some ⟨bb, 0, none⟩), W, ?_, rfl, Ext.refl _⟩
      simp [ev47, execOp, go_sem]
    · refine softR_val 49 _ (by kernel_rfl) rfl rfl ?_
      intro a W hx hout hdep
      have ev48 : a.tmps[48]?.getD undef = .pointer (some ⟨bb, 0, none⟩) := by rw [← Array.getD_eq_getD_getElem?]; exact (hdep ⟨17, .data⟩ (by simp) rfl 48 _ rfl).1
      refine ⟨rfl, .pointer (some ⟨bb, 2, none⟩), W, ?_, rfl, Ext.refl _⟩
      simp [ev48, execOp, go_sem]
    · refine softR_val 50 _ (by kernel_rfl) rfl rfl ?_
      intro a W hx hout hdep
      have ev49 : a.tmps[49]?.getD undef = .pointer (some ⟨bb, 2, none⟩) := by rw [← Array.getD_eq_getD_getElem?]; exact (hdep ⟨18, .data⟩ (by simp) rfl 49 _ rfl).1
      have q0 := hx.keep c2
      refine ⟨rfl, .pointer (some ⟨q, 0, none⟩), W, ?_, rfl, Ext.refl _⟩
      simp [ev49, q0, execOp, go_sem]
    · refine softR_call 51 _ (by kernel_rfl) rfl rfl ?_
      intro a W hx hout hdep
      have ev46 : a.tmps[46]?.getD undef = .pointer (some ⟨s, 0, none⟩) := by rw [← Array.getD_eq_getD_getElem?]; exact (hdep ⟨15, .data⟩ (by simp) rfl 46 _ rfl).1
      have ev50 : a.tmps[50]?.getD undef = .pointer (some ⟨q, 0, none⟩) := by rw [← Array.getD_eq_getD_getElem?]; exact (hdep ⟨19, .data⟩ (by simp) rfl 50 _ rfl).1
      refine ⟨rfl, 30, #[.pointer (some ⟨s, 0, none⟩), .pointer (some ⟨q, 0, none⟩)], ?_, ?_⟩
      · simp [ev46, ev50, execOp, go_sem]
      · exact (hj2.out W hx).mono (by rintro e W1 ⟨v, rfl, h1, h2⟩; exact ⟨v, rfl, h1, h2⟩)

theorem lean_form {t : Tr} {n : Nat} (h : n + 1 < htT t) : ∃ x y, t = .node x y ∧ (htT x < htT y → ∃ u v, y = .node u v) ∧ (htT y < htT x → ∃ u v, x = .node u v) := by
  cases t with
  | leaf l => simp [htT] at h
  | node x y =>
    refine ⟨x, y, rfl, fun h2 => ?_, fun h2 => ?_⟩
    · cases y with
      | leaf l => simp [htT] at h2
      | node u v => exact ⟨u, v, rfl⟩
    · cases x with
      | leaf l => simp [htT] at h2
      | node u v => exact ⟨u, v, rfl⟩

set_option maxRecDepth 100000 in
set_option maxHeartbeats 16000000 in
theorem bal_any {G : Nat → Prop} {ba bb : Nat} {ta tb : Tr} {w : World} (hA : AtP G w ba ta) (hB : AtP G w bb tb) (hG : Up G w) (ha : okT ta) (hb : okT tb) (hn : cnt ta + cnt tb ≤ 100000) :
    Calls Try.prog 34 #[Vp ba, Vp bb] w (RetN G w (balTr ta tb)) := by
  have g1 := hA.high
  have g2 := hB.high
  have hta := ht_lt ha
  have htb := ht_lt hb
  by_cases h1 : htT tb + 1 < htT ta
  · have hres : balTr ta tb = leanRt ta tb := by unfold balTr; rw [if_pos h1]
    rw [hres]
    clear hres
    have hd : decide (((htT tb : Int) + 1) < (htT ta : Int)) = true := by rw [decide_eq_true_eq]; omega
    have hc := Lib.hid (fun W (hx : Ext w W) => show Calls Try.prog 39 #[Vp ba, Vp bb] W (RetN G W (leanRt ta tb)) by
      obtain ⟨x, y, rfl, hs, _⟩ := lean_form h1
      exact leanR_any (hA.ext hx) (hB.ext hx) (hG.ext hx) ha hb hn hs)
    generalize htT ta = na at *
    generalize htT tb = nb at *
    go_enter Try.func34, Try.ntmps34
    go_wp2_with fail
    go_quiet (fail)
    have x1 : Ext w (w.drewN nq) := (Ext.refl w).drewN nq
    generalize w.drewN nq = w1 at *
    go_wp2_with fail
    refine (hc.out _ x1).mono ?_
    rintro e w4 ⟨v4, rfl, o4, x4⟩
    go_wp2
    go_ret
    exact ⟨v4, rfl, o4, x1.trans x4⟩
  · have hd : decide (((htT tb : Int) + 1) < (htT ta : Int)) = false := by rw [decide_eq_false_iff_not]; omega
    by_cases h2 : htT ta + 1 < htT tb
    · have hres : balTr ta tb = leanLt ta tb := by unfold balTr; rw [if_neg h1, if_pos h2]
      rw [hres]
      clear hres
      have hd2 : decide (((htT ta : Int) + 1) < (htT tb : Int)) = true := by rw [decide_eq_true_eq]; omega
      have hc := Lib.hid (fun W (hx : Ext w W) => show Calls Try.prog 40 #[Vp ba, Vp bb] W (RetN G W (leanLt ta tb)) by
        obtain ⟨x, y, rfl, _, hs⟩ := lean_form h2
        exact leanL_any (hA.ext hx) (hB.ext hx) (hG.ext hx) ha hb hn hs)
      generalize htT ta = na at *
      generalize htT tb = nb at *
      go_enter Try.func34, Try.ntmps34
      go_wp2_with fail
      go_quiet (fail)
      have x1 : Ext w (w.drewN nq) := (Ext.refl w).drewN nq
      have g1 := x1.keep g1
      have g2 := x1.keep g2
      generalize w.drewN nq = w1 at *
      go_wp2_with fail
      go_quiet (fail)
      have x2 : Ext w (w1.drewN nq) := x1.drewN nq
      generalize w1.drewN nq = w2 at *
      go_wp2_with fail
      refine (hc.out _ x2).mono ?_
      rintro e w4 ⟨v4, rfl, o4, x4⟩
      go_wp2
      go_ret
      exact ⟨v4, rfl, o4, x2.trans x4⟩
    · have hres : balTr ta tb = .node ta tb := by unfold balTr; rw [if_neg h1, if_neg h2]
      rw [hres]
      clear hres
      have hd2 : decide (((htT ta : Int) + 1) < (htT tb : Int)) = false := by rw [decide_eq_false_iff_not]; omega
      have hc := Lib.hid (fun W (hx : Ext w W) => join_any (hA.ext hx) (hB.ext hx) (hG.ext hx) ha hb hn)
      generalize htT ta = na at *
      generalize htT tb = nb at *
      go_enter Try.func34, Try.ntmps34
      go_wp2_with fail
      go_quiet (fail)
      have x1 : Ext w (w.drewN nq) := (Ext.refl w).drewN nq
      have g1 := x1.keep g1
      have g2 := x1.keep g2
      generalize w.drewN nq = w1 at *
      go_wp2_with fail
      go_quiet (fail)
      have x2 : Ext w (w1.drewN nq) := x1.drewN nq
      generalize w1.drewN nq = w2 at *
      go_wp2_with fail
      refine (hc.out _ x2).mono ?_
      rintro e w4 ⟨v4, rfl, o4, x4⟩
      go_wp2
      go_ret
      exact ⟨v4, rfl, o4, x2.trans x4⟩

end Go.Proofs.Ytanknhalgoheeaa
