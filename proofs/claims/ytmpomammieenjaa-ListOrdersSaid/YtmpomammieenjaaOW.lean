/-
  Several texts of this seat in one file, each in the namespace again; no claim stands here.
-/
import Derived.Test.YtmpomammieenjaaOV
import Derived.Test.YtmpomammieenjaaOT
import Derived.Test.YtmpomammieenjaaOU
namespace Go.Proofs.Ytmpomammieenjaa
open Go.ChangeShapes Go.WideShapes Go.ChangeAt Go.RowKit Go.Sort
set_option linter.unusedVariables false
set_option linter.unusedSimpArgs false
attribute [local go_sem] World.cell?_alloc_some

def lrTab2 (G : Nat → Prop) (ba bb p q : Nat) (x y tb : Tr) : SoftTab := [(20, fun z9 W => z9 = .pointer (some ⟨ba, 0, none⟩)),
  (21, fun z9 W => z9 = .pointer (some ⟨ba, 0, none⟩)),
  (22, fun z9 W => z9 = .pointer (some ⟨ba, 1, none⟩)),
  (23, fun z9 W => z9 = .pointer (some ⟨p, 0, none⟩)),
  (24, fun z9 W => z9 = .pointer (some ⟨ba, 0, none⟩)),
  (25, fun z9 W => z9 = .pointer (some ⟨ba, 0, none⟩)),
  (26, fun z9 W => z9 = .pointer (some ⟨ba, 2, none⟩)),
  (27, fun z9 W => z9 = .pointer (some ⟨q, 0, none⟩)),
  (28, fun z9 W => z9 = .pointer (some ⟨bb, 0, none⟩)),
  (29, fun z9 W => NewP G W z9 (.node y tb))]
theorem lrTab2_mono (G : Nat → Prop) (ba bb p q : Nat) (x y tb : Tr) (Rel : World → World → Prop) (hR : ∀ W W', Rel W W' → Ext W W') : SoftMonoR Rel (lrTab2 G ba bb p q x y tb) := by
  intro p hp v W W' h hx
  simp only [lrTab2, List.mem_cons, List.not_mem_nil, or_false] at hp
  rcases hp with rfl | rfl | rfl | rfl | rfl | rfl | rfl | rfl | rfl | rfl
  all_goals first
    | exact h
    | exact NewP.ext h (hR _ _ hx)

def lrTab3 (G : Nat → Prop) (ba bb p q r s : Nat) (x u z tb : Tr) : SoftTab := [(31, fun z9 W => z9 = .pointer (some ⟨ba, 0, none⟩)),
  (32, fun z9 W => z9 = .pointer (some ⟨ba, 0, none⟩)),
  (33, fun z9 W => z9 = .pointer (some ⟨ba, 1, none⟩)),
  (34, fun z9 W => z9 = .pointer (some ⟨p, 0, none⟩)),
  (35, fun z9 W => z9 = .pointer (some ⟨ba, 0, none⟩)),
  (36, fun z9 W => z9 = .pointer (some ⟨ba, 0, none⟩)),
  (37, fun z9 W => z9 = .pointer (some ⟨ba, 2, none⟩)),
  (38, fun z9 W => z9 = .pointer (some ⟨q, 0, none⟩)),
  (39, fun z9 W => z9 = .pointer (some ⟨q, 0, none⟩)),
  (40, fun z9 W => z9 = .pointer (some ⟨q, 1, none⟩)),
  (41, fun z9 W => z9 = .pointer (some ⟨r, 0, none⟩)),
  (42, fun z9 W => NewP G W z9 (.node x u)),
  (43, fun z9 W => z9 = .pointer (some ⟨ba, 0, none⟩)),
  (44, fun z9 W => z9 = .pointer (some ⟨ba, 0, none⟩)),
  (45, fun z9 W => z9 = .pointer (some ⟨ba, 2, none⟩)),
  (46, fun z9 W => z9 = .pointer (some ⟨q, 0, none⟩)),
  (47, fun z9 W => z9 = .pointer (some ⟨q, 0, none⟩)),
  (48, fun z9 W => z9 = .pointer (some ⟨q, 2, none⟩)),
  (49, fun z9 W => z9 = .pointer (some ⟨s, 0, none⟩)),
  (50, fun z9 W => z9 = .pointer (some ⟨bb, 0, none⟩)),
  (51, fun z9 W => NewP G W z9 (.node z tb))]
theorem lrTab3_mono (G : Nat → Prop) (ba bb p q r s : Nat) (x u z tb : Tr) (Rel : World → World → Prop) (hR : ∀ W W', Rel W W' → Ext W W') : SoftMonoR Rel (lrTab3 G ba bb p q r s x u z tb) := by
  intro p hp v W W' h hx
  simp only [lrTab3, List.mem_cons, List.not_mem_nil, or_false] at hp
  rcases hp with rfl | rfl | rfl | rfl | rfl | rfl | rfl | rfl | rfl | rfl | rfl | rfl | rfl | rfl | rfl | rfl | rfl | rfl | rfl | rfl | rfl
  all_goals first
    | exact h
    | exact NewP.ext h (hR _ _ hx)

def llTab2 (G : Nat → Prop) (ba bb p q : Nat) (x y tb : Tr) : SoftTab := [(20, fun z9 W => z9 = .pointer (some ⟨ba, 0, none⟩)),
  (21, fun z9 W => z9 = .pointer (some ⟨bb, 0, none⟩)),
  (22, fun z9 W => z9 = .pointer (some ⟨bb, 0, none⟩)),
  (23, fun z9 W => z9 = .pointer (some ⟨bb, 1, none⟩)),
  (24, fun z9 W => z9 = .pointer (some ⟨p, 0, none⟩)),
  (25, fun z9 W => NewP G W z9 (.node tb x)),
  (26, fun z9 W => z9 = .pointer (some ⟨bb, 0, none⟩)),
  (27, fun z9 W => z9 = .pointer (some ⟨bb, 0, none⟩)),
  (28, fun z9 W => z9 = .pointer (some ⟨bb, 2, none⟩)),
  (29, fun z9 W => z9 = .pointer (some ⟨q, 0, none⟩))]
theorem llTab2_mono (G : Nat → Prop) (ba bb p q : Nat) (x y tb : Tr) (Rel : World → World → Prop) (hR : ∀ W W', Rel W W' → Ext W W') : SoftMonoR Rel (llTab2 G ba bb p q x y tb) := by
  intro p hp v W W' h hx
  simp only [llTab2, List.mem_cons, List.not_mem_nil, or_false] at hp
  rcases hp with rfl | rfl | rfl | rfl | rfl | rfl | rfl | rfl | rfl | rfl
  all_goals first
    | exact h
    | exact NewP.ext h (hR _ _ hx)

def llTab3 (G : Nat → Prop) (ba bb p q r s : Nat) (y u z tb : Tr) : SoftTab := [(31, fun z9 W => z9 = .pointer (some ⟨ba, 0, none⟩)),
  (32, fun z9 W => z9 = .pointer (some ⟨bb, 0, none⟩)),
  (33, fun z9 W => z9 = .pointer (some ⟨bb, 0, none⟩)),
  (34, fun z9 W => z9 = .pointer (some ⟨bb, 1, none⟩)),
  (35, fun z9 W => z9 = .pointer (some ⟨p, 0, none⟩)),
  (36, fun z9 W => z9 = .pointer (some ⟨p, 0, none⟩)),
  (37, fun z9 W => z9 = .pointer (some ⟨p, 1, none⟩)),
  (38, fun z9 W => z9 = .pointer (some ⟨r, 0, none⟩)),
  (39, fun z9 W => NewP G W z9 (.node tb u)),
  (40, fun z9 W => z9 = .pointer (some ⟨bb, 0, none⟩)),
  (41, fun z9 W => z9 = .pointer (some ⟨bb, 0, none⟩)),
  (42, fun z9 W => z9 = .pointer (some ⟨bb, 1, none⟩)),
  (43, fun z9 W => z9 = .pointer (some ⟨p, 0, none⟩)),
  (44, fun z9 W => z9 = .pointer (some ⟨p, 0, none⟩)),
  (45, fun z9 W => z9 = .pointer (some ⟨p, 2, none⟩)),
  (46, fun z9 W => z9 = .pointer (some ⟨s, 0, none⟩)),
  (47, fun z9 W => z9 = .pointer (some ⟨bb, 0, none⟩)),
  (48, fun z9 W => z9 = .pointer (some ⟨bb, 0, none⟩)),
  (49, fun z9 W => z9 = .pointer (some ⟨bb, 2, none⟩)),
  (50, fun z9 W => z9 = .pointer (some ⟨q, 0, none⟩)),
  (51, fun z9 W => NewP G W z9 (.node z y))]
theorem llTab3_mono (G : Nat → Prop) (ba bb p q r s : Nat) (y u z tb : Tr) (Rel : World → World → Prop) (hR : ∀ W W', Rel W W' → Ext W W') : SoftMonoR Rel (llTab3 G ba bb p q r s y u z tb) := by
  intro p hp v W W' h hx
  simp only [llTab3, List.mem_cons, List.not_mem_nil, or_false] at hp
  rcases hp with rfl | rfl | rfl | rfl | rfl | rfl | rfl | rfl | rfl | rfl | rfl | rfl | rfl | rfl | rfl | rfl | rfl | rfl | rfl | rfl | rfl
  all_goals first
    | exact h
    | exact NewP.ext h (hR _ _ hx)

set_option maxRecDepth 100000 in
set_option maxHeartbeats 16000000 in
theorem leanR_any {G : Nat → Prop} {ba bb : Nat} {x y tb : Tr} {w : World} (hA : AtP G w ba (.node x y)) (hB : AtP G w bb tb) (hG : Up G w) (ha : okR (.node x y)) (hb0 : okR tb) (hn : cnt (.node x y) + cnt tb ≤ 100000) (hsh : htT x < htT y → ∃ u z, y = .node u z) :
    Calls Try.prog 102 #[Vp ba, Vp bb] w (RetN G w (leanRt (.node x y) tb)) := by
  obtain ⟨p, q, c1, c2, hX, hY⟩ := hA.left
  have g1 := hX.high
  have g2 := hY.high
  rw [cnt_node] at hn
  by_cases hh : htT y ≤ htT x
  · have hd : decide ((htT y : Int) ≤ (htT x : Int)) = true := by rw [decide_eq_true_eq]; omega
    have hres : leanRt (.node x y) tb = .node x (.node y tb) := by simp only [leanRt]; rw [if_pos hh]
    rw [hres]
    clear hres hsh
    generalize htT y = ky at *
    generalize htT x = kx at *
    obtain ⟨hx0, hy0⟩ := ha
    go_enter Try.func102, Try.ntmps102
    go_wp2_with fail
    go_quiet (fail)
    have x1 : Ext w (w.drewN nq) := (Ext.refl w).drewN nq
    have c1 := x1.keep c1
    have c2 := x1.keep c2
    generalize w.drewN nq = w1 at *
    have hj := Lib.hid (fun W (hx : Ext w1 W) => join_any (hY.ext (x1.trans hx)) (hB.ext (x1.trans hx)) (hG.ext (x1.trans hx)) hy0 hb0 (by omega))
    go_wp2_with fail
    refine wp_soft_frame Ext 10 (lrTab2 G ba bb p q x y tb) (by kernel_rfl) (by kernel_rfl) (fun _ _ _ => Ext.trans) ((Ext.refl _).drew) rfl (by show List.Nodup [20, 21, 22, 23, 24, 25, 26, 27, 28, 29]; decide) (by show ∀ d ∈ [20, 21, 22, 23, 24, 25, 26, 27, 28, 29], d < 53; decide) (lrTab2_mono G ba bb p q x y tb Ext (fun _ _ h => h)) ?_ ⟨?_, ?_, ?_, ?_, ?_, ?_, ?_, ?_, ?_, ?_, trivial⟩
    · intro W vs hT hR
      match vs, hT with
      | [v0, v1, v2, v3, v4, v5, v6, v7, v8, v9], ⟨e0, e1, e2, e3, e4, e5, e6, e7, e8, e9, _⟩ =>
        simp only [lrTab2, List.map_cons, List.map_nil, List.zip_cons_cons, List.zip_nil_left, putAll, List.setIfInBounds_toArray, List.set_cons_zero, List.set_cons_succ, List.drop_succ_cons, List.drop_zero]
        simp only at e0 e1 e2 e3 e4 e5 e6 e7 e8
        obtain ⟨q9, e9, h9⟩ := e9
        rw [e0, e1, e2, e3, e4, e5, e6, e7, e8, e9]
        clear e0 e1 e2 e3 e4 e5 e6 e7 e8 e9 v0 v1 v2 v3 v4 v5 v6 v7 v8 v9
        go_wp2_with fail
        refine (join_any (hX.ext (x1.trans hR)) h9 (hG.ext (x1.trans hR)) hx0 ⟨hy0, hb0⟩ (by rw [cnt_node]; omega)).mono ?_
        rintro e w4 ⟨v4, rfl, o4, x4⟩
        go_wp2
        go_ret
        exact ⟨v4, rfl, o4, x1.trans (hR.trans x4)⟩
    · refine softR_val 20 _ (by kernel_rfl) rfl rfl ?_
      intro a W hx hout hdep
      have ev0 : a.tmps[0]?.getD undef = .pointer (some ⟨ba, 0, none⟩) := by rw [← Array.getD_eq_getD_getElem?]; exact hout 0 (by show 0 ∉ [20, 21, 22, 23, 24, 25, 26, 27, 28, 29]; decide)
      refine ⟨rfl, .pointer (some ⟨ba, 0, none⟩), W, ?_, rfl, Ext.refl _⟩
      simp [ev0, execOp, go_sem]
    · refine softR_val 21 _ (by kernel_rfl) rfl rfl ?_
      intro a W hx hout hdep
      have ev20 : a.tmps[20]?.getD undef = .pointer (some ⟨ba, 0, none⟩) := by rw [← Array.getD_eq_getD_getElem?]; exact (hdep ⟨0, .data⟩ (by simp) rfl 20 _ rfl).1
      refine ⟨rfl, .pointer (some ⟨ba, 0, none⟩), W, ?_, rfl, Ext.refl _⟩
      simp [ev20, execOp, go_sem]
    · refine softR_val 22 _ (by kernel_rfl) rfl rfl ?_
      intro a W hx hout hdep
      have ev21 : a.tmps[21]?.getD undef = .pointer (some ⟨ba, 0, none⟩) := by rw [← Array.getD_eq_getD_getElem?]; exact (hdep ⟨1, .data⟩ (by simp) rfl 21 _ rfl).1
      refine ⟨rfl, .pointer (some ⟨ba, 1, none⟩), W, ?_, rfl, Ext.refl _⟩
      simp [ev21, execOp, go_sem]
    · refine softR_val 23 _ (by kernel_rfl) rfl rfl ?_
      intro a W hx hout hdep
      have ev22 : a.tmps[22]?.getD undef = .pointer (some ⟨ba, 1, none⟩) := by rw [← Array.getD_eq_getD_getElem?]; exact (hdep ⟨2, .data⟩ (by simp) rfl 22 _ rfl).1
      have q0 := hx.keep c1
      refine ⟨rfl, .pointer (some ⟨p, 0, none⟩), W, ?_, rfl, Ext.refl _⟩
      simp [ev22, q0, execOp, go_sem]
    · refine softR_val 24 _ (by kernel_rfl) rfl rfl ?_
      intro a W hx hout hdep
      have ev0 : a.tmps[0]?.getD undef = .pointer (some ⟨ba, 0, none⟩) := by rw [← Array.getD_eq_getD_getElem?]; exact hout 0 (by show 0 ∉ [20, 21, 22, 23, 24, 25, 26, 27, 28, 29]; decide)
      refine ⟨rfl, .pointer (some ⟨ba, 0, none⟩), W, ?_, rfl, Ext.refl _⟩
      simp [ev0, execOp, go_sem]
    · refine softR_val 25 _ (by kernel_rfl) rfl rfl ?_
      intro a W hx hout hdep
      have ev24 : a.tmps[24]?.getD undef = .pointer (some ⟨ba, 0, none⟩) := by rw [← Array.getD_eq_getD_getElem?]; exact (hdep ⟨4, .data⟩ (by simp) rfl 24 _ rfl).1
      refine ⟨rfl, .pointer (some ⟨ba, 0, none⟩), W, ?_, rfl, Ext.refl _⟩
      simp [ev24, execOp, go_sem]
    · refine softR_val 26 _ (by kernel_rfl) rfl rfl ?_
      intro a W hx hout hdep
      have ev25 : a.tmps[25]?.getD undef = .pointer (some ⟨ba, 0, none⟩) := by rw [← Array.getD_eq_getD_getElem?]; exact (hdep ⟨5, .data⟩ (by simp) rfl 25 _ rfl).1
      refine ⟨rfl, .pointer (some ⟨ba, 2, none⟩), W, ?_, rfl, Ext.refl _⟩
      simp [ev25, execOp, go_sem]
    · refine softR_val 27 _ (by kernel_rfl) rfl rfl ?_
      intro a W hx hout hdep
      have ev26 : a.tmps[26]?.getD undef = .pointer (some ⟨ba, 2, none⟩) := by rw [← Array.getD_eq_getD_getElem?]; exact (hdep ⟨6, .data⟩ (by simp) rfl 26 _ rfl).1
      have q0 := hx.keep c2
      refine ⟨rfl, .pointer (some ⟨q, 0, none⟩), W, ?_, rfl, Ext.refl _⟩
      simp [ev26, q0, execOp, go_sem]
    · refine softR_val 28 _ (by kernel_rfl) rfl rfl ?_
      intro a W hx hout hdep
      have ev1 : a.tmps[1]?.getD undef = .pointer (some ⟨bb, 0, none⟩) := by rw [← Array.getD_eq_getD_getElem?]; exact hout 1 (by show 1 ∉ [20, 21, 22, 23, 24, 25, 26, 27, 28, 29]; decide)
      refine ⟨rfl, .pointer (some ⟨bb, 0, none⟩), W, ?_, rfl, Ext.refl _⟩
      simp [ev1, execOp, go_sem]
    · refine softR_call 29 _ (by kernel_rfl) rfl rfl ?_
      intro a W hx hout hdep
      have ev27 : a.tmps[27]?.getD undef = .pointer (some ⟨q, 0, none⟩) := by rw [← Array.getD_eq_getD_getElem?]; exact (hdep ⟨7, .data⟩ (by simp) rfl 27 _ rfl).1
      have ev28 : a.tmps[28]?.getD undef = .pointer (some ⟨bb, 0, none⟩) := by rw [← Array.getD_eq_getD_getElem?]; exact (hdep ⟨8, .data⟩ (by simp) rfl 28 _ rfl).1
      refine ⟨rfl, 73, #[.pointer (some ⟨q, 0, none⟩), .pointer (some ⟨bb, 0, none⟩)], ?_, ?_⟩
      · simp [ev27, ev28, execOp, go_sem]
      · exact (hj.out W hx).mono (by rintro e W1 ⟨v, rfl, h1, h2⟩; exact ⟨v, rfl, h1, h2⟩)
  · obtain ⟨u, z, rfl⟩ := hsh (by omega)
    obtain ⟨r, s, d1, d2, hY1, hY2⟩ := hY.left
    have hd : decide ((htT (.node u z) : Int) ≤ (htT x : Int)) = false := by rw [decide_eq_false_iff_not]; omega
    have hres : leanRt (.node x (.node u z)) tb = .node (.node x u) (.node z tb) := by simp only [leanRt]; rw [if_neg hh]
    rw [hres]
    clear hres hsh
    generalize htT (.node u z) = ky at *
    generalize htT x = kx at *
    obtain ⟨hx0, hy0, hz0⟩ := ha
    rw [cnt_node] at hn
    go_enter Try.func102, Try.ntmps102
    go_wp2_with fail
    go_quiet (fail)
    have x1 : Ext w (w.drewN nq) := (Ext.refl w).drewN nq
    have c1 := x1.keep c1
    have c2 := x1.keep c2
    have d1 := x1.keep d1
    have d2 := x1.keep d2
    generalize w.drewN nq = w1 at *
    have hj1 := Lib.hid (fun W (hx : Ext w1 W) => join_any (hX.ext (x1.trans hx)) (hY1.ext (x1.trans hx)) (hG.ext (x1.trans hx)) hx0 hy0 (by omega))
    have hj2 := Lib.hid (fun W (hx : Ext w1 W) => join_any (hY2.ext (x1.trans hx)) (hB.ext (x1.trans hx)) (hG.ext (x1.trans hx)) hz0 hb0 (by omega))
    go_wp2_with fail
    refine wp_soft_frame Ext 21 (lrTab3 G ba bb p q r s x u z tb) (by kernel_rfl) (by kernel_rfl) (fun _ _ _ => Ext.trans) ((Ext.refl _).drew) rfl (by show List.Nodup [31, 32, 33, 34, 35, 36, 37, 38, 39, 40, 41, 42, 43, 44, 45, 46, 47, 48, 49, 50, 51]; decide) (by show ∀ d ∈ [31, 32, 33, 34, 35, 36, 37, 38, 39, 40, 41, 42, 43, 44, 45, 46, 47, 48, 49, 50, 51], d < 53; decide) (lrTab3_mono G ba bb p q r s x u z tb Ext (fun _ _ h => h)) ?_ ⟨?_, ?_, ?_, ?_, ?_, ?_, ?_, ?_, ?_, ?_, ?_, ?_, ?_, ?_, ?_, ?_, ?_, ?_, ?_, ?_, ?_, trivial⟩
    · intro W vs hT hR
      match vs, hT with
      | [v0, v1, v2, v3, v4, v5, v6, v7, v8, v9, v10, v11, v12, v13, v14, v15, v16, v17, v18, v19, v20], ⟨e0, e1, e2, e3, e4, e5, e6, e7, e8, e9, e10, e11, e12, e13, e14, e15, e16, e17, e18, e19, e20, _⟩ =>
        simp only [lrTab3, List.map_cons, List.map_nil, List.zip_cons_cons, List.zip_nil_left, putAll, List.setIfInBounds_toArray, List.set_cons_zero, List.set_cons_succ, List.drop_succ_cons, List.drop_zero]
        simp only at e0 e1 e2 e3 e4 e5 e6 e7 e8 e9 e10 e12 e13 e14 e15 e16 e17 e18 e19
        obtain ⟨q11, e11, h11⟩ := e11
        obtain ⟨q20, e20, h20⟩ := e20
        rw [e0, e1, e2, e3, e4, e5, e6, e7, e8, e9, e10, e11, e12, e13, e14, e15, e16, e17, e18, e19, e20]
        clear e0 e1 e2 e3 e4 e5 e6 e7 e8 e9 e10 e11 e12 e13 e14 e15 e16 e17 e18 e19 e20 v0 v1 v2 v3 v4 v5 v6 v7 v8 v9 v10 v11 v12 v13 v14 v15 v16 v17 v18 v19 v20
        go_wp2_with fail
        refine (join_any h11 h20 (hG.ext (x1.trans hR)) ⟨hx0, hy0⟩ ⟨hz0, hb0⟩ (by rw [cnt_node, cnt_node]; omega)).mono ?_
        rintro e w4 ⟨v4, rfl, o4, x4⟩
        go_wp2
        go_ret
        exact ⟨v4, rfl, o4, x1.trans (hR.trans x4)⟩
    · refine softR_val 31 _ (by kernel_rfl) rfl rfl ?_
      intro a W hx hout hdep
      have ev0 : a.tmps[0]?.getD undef = .pointer (some ⟨ba, 0, none⟩) := by rw [← Array.getD_eq_getD_getElem?]; exact hout 0 (by show 0 ∉ [31, 32, 33, 34, 35, 36, 37, 38, 39, 40, 41, 42, 43, 44, 45, 46, 47, 48, 49, 50, 51]; decide)
      refine ⟨rfl, .pointer (some ⟨ba, 0, none⟩), W, ?_, rfl, Ext.refl _⟩
      simp [ev0, execOp, go_sem]
    · refine softR_val 32 _ (by kernel_rfl) rfl rfl ?_
      intro a W hx hout hdep
      have ev31 : a.tmps[31]?.getD undef = .pointer (some ⟨ba, 0, none⟩) := by rw [← Array.getD_eq_getD_getElem?]; exact (hdep ⟨0, .data⟩ (by simp) rfl 31 _ rfl).1
      refine ⟨rfl, .pointer (some ⟨ba, 0, none⟩), W, ?_, rfl, Ext.refl _⟩
      simp [ev31, execOp, go_sem]
    · refine softR_val 33 _ (by kernel_rfl) rfl rfl ?_
      intro a W hx hout hdep
      have ev32 : a.tmps[32]?.getD undef = .pointer (some ⟨ba, 0, none⟩) := by rw [← Array.getD_eq_getD_getElem?]; exact (hdep ⟨1, .data⟩ (by simp) rfl 32 _ rfl).1
      refine ⟨rfl, .pointer (some ⟨ba, 1, none⟩), W, ?_, rfl, Ext.refl _⟩
      simp [ev32, execOp, go_sem]
    · refine softR_val 34 _ (by kernel_rfl) rfl rfl ?_
      intro a W hx hout hdep
      have ev33 : a.tmps[33]?.getD undef = .pointer (some ⟨ba, 1, none⟩) := by rw [← Array.getD_eq_getD_getElem?]; exact (hdep ⟨2, .data⟩ (by simp) rfl 33 _ rfl).1
      have q0 := hx.keep c1
      refine ⟨rfl, .pointer (some ⟨p, 0, none⟩), W, ?_, rfl, Ext.refl _⟩
      simp [ev33, q0, execOp, go_sem]
    · refine softR_val 35 _ (by kernel_rfl) rfl rfl ?_
      intro a W hx hout hdep
      have ev0 : a.tmps[0]?.getD undef = .pointer (some ⟨ba, 0, none⟩) := by rw [← Array.getD_eq_getD_getElem?]; exact hout 0 (by show 0 ∉ [31, 32, 33, 34, 35, 36, 37, 38, 39, 40, 41, 42, 43, 44, 45, 46, 47, 48, 49, 50, 51]; decide)
      refine ⟨rfl, .pointer (some ⟨ba, 0, none⟩), W, ?_, rfl, Ext.refl _⟩
      simp [ev0, execOp, go_sem]
    · refine softR_val 36 _ (by kernel_rfl) rfl rfl ?_
      intro a W hx hout hdep
      have ev35 : a.tmps[35]?.getD undef = .pointer (some ⟨ba, 0, none⟩) := by rw [← Array.getD_eq_getD_getElem?]; exact (hdep ⟨4, .data⟩ (by simp) rfl 35 _ rfl).1
      refine ⟨rfl, .pointer (some ⟨ba, 0, none⟩), W, ?_, rfl, Ext.refl _⟩
      simp [ev35, execOp, go_sem]
    · refine softR_val 37 _ (by kernel_rfl) rfl rfl ?_
      intro a W hx hout hdep
      have ev36 : a.tmps[36]?.getD undef = .pointer (some ⟨ba, 0, none⟩) := by rw [← Array.getD_eq_getD_getElem?]; exact (hdep ⟨5, .data⟩ (by simp) rfl 36 _ rfl).1
      refine ⟨rfl, .pointer (some ⟨ba, 2, none⟩), W, ?_, rfl, Ext.refl _⟩
      simp [ev36, execOp, go_sem]
    · refine softR_val 38 _ (by kernel_rfl) rfl rfl ?_
      intro a W hx hout hdep
      have ev37 : a.tmps[37]?.getD undef = .pointer (some ⟨ba, 2, none⟩) := by rw [← Array.getD_eq_getD_getElem?]; exact (hdep ⟨6, .data⟩ (by simp) rfl 37 _ rfl).1
      have q0 := hx.keep c2
      refine ⟨rfl, .pointer (some ⟨q, 0, none⟩), W, ?_, rfl, Ext.refl _⟩
      simp [ev37, q0, execOp, go_sem]
    · refine softR_val 39 _ (by kernel_rfl) rfl rfl ?_
      intro a W hx hout hdep
      have ev38 : a.tmps[38]?.getD undef = .pointer (some ⟨q, 0, none⟩) := by rw [← Array.getD_eq_getD_getElem?]; exact (hdep ⟨7, .data⟩ (by simp) rfl 38 _ rfl).1
      refine ⟨rfl, .pointer (some ⟨q, 0, none⟩), W, ?_, rfl, Ext.refl _⟩
      simp [ev38, execOp, go_sem]
    · refine softR_val 40 _ (by kernel_rfl) rfl rfl ?_
      intro a W hx hout hdep
      have ev39 : a.tmps[39]?.getD undef = .pointer (some ⟨q, 0, none⟩) := by rw [← Array.getD_eq_getD_getElem?]; exact (hdep ⟨8, .data⟩ (by simp) rfl 39 _ rfl).1
      refine ⟨rfl, .pointer (some ⟨q, 1, none⟩), W, ?_, rfl, Ext.refl _⟩
      simp [ev39, execOp, go_sem]
    · refine softR_val 41 _ (by kernel_rfl) rfl rfl ?_
      intro a W hx hout hdep
      have ev40 : a.tmps[40]?.getD undef = .pointer (some ⟨q, 1, none⟩) := by rw [← Array.getD_eq_getD_getElem?]; exact (hdep ⟨9, .data⟩ (by simp) rfl 40 _ rfl).1
      have q0 := hx.keep d1
      refine ⟨rfl, .pointer (some ⟨r, 0, none⟩), W, ?_, rfl, Ext.refl _⟩
      simp [ev40, q0, execOp, go_sem]
    · refine softR_call 42 _ (by kernel_rfl) rfl rfl ?_
      intro a W hx hout hdep
      have ev34 : a.tmps[34]?.getD undef = .pointer (some ⟨p, 0, none⟩) := by rw [← Array.getD_eq_getD_getElem?]; exact (hdep ⟨3, .data⟩ (by simp) rfl 34 _ rfl).1
      have ev41 : a.tmps[41]?.getD undef = .pointer (some ⟨r, 0, none⟩) := by rw [← Array.getD_eq_getD_getElem?]; exact (hdep ⟨10, .data⟩ (by simp) rfl 41 _ rfl).1
      refine ⟨rfl, 73, #[.pointer (some ⟨p, 0, none⟩), .pointer (some ⟨r, 0, none⟩)], ?_, ?_⟩
      · simp [ev34, ev41, execOp, go_sem]
      · exact (hj1.out W hx).mono (by rintro e W1 ⟨v, rfl, h1, h2⟩; exact ⟨v, rfl, h1, h2⟩)
    · refine softR_val 43 _ (by kernel_rfl) rfl rfl ?_
      intro a W hx hout hdep
      have ev0 : a.tmps[0]?.getD undef = .pointer (some ⟨ba, 0, none⟩) := by rw [← Array.getD_eq_getD_getElem?]; exact hout 0 (by show 0 ∉ [31, 32, 33, 34, 35, 36, 37, 38, 39, 40, 41, 42, 43, 44, 45, 46, 47, 48, 49, 50, 51]; decide)
      refine ⟨rfl, .pointer (some ⟨ba, 0, none⟩), W, ?_, rfl, Ext.refl _⟩
      simp [ev0, execOp, go_sem]
    · refine softR_val 44 _ (by kernel_rfl) rfl rfl ?_
      intro a W hx hout hdep
      have ev43 : a.tmps[43]?.getD undef = .pointer (some ⟨ba, 0, none⟩) := by rw [← Array.getD_eq_getD_getElem?]; exact (hdep ⟨12, .data⟩ (by simp) rfl 43 _ rfl).1
      refine ⟨rfl, .pointer (some ⟨ba, 0, none⟩), W, ?_, rfl, Ext.refl _⟩
      simp [ev43, execOp, go_sem]
    · refine softR_val 45 _ (by kernel_rfl) rfl rfl ?_
      intro a W hx hout hdep
      have ev44 : a.tmps[44]?.getD undef = .pointer (some ⟨ba, 0, none⟩) := by rw [← Array.getD_eq_getD_getElem?]; exact (hdep ⟨13, .data⟩ (by simp) rfl 44 _ rfl).1
      refine ⟨rfl, .pointer (some ⟨ba, 2, none⟩), W, ?_, rfl, Ext.refl _⟩
      simp [ev44, execOp, go_sem]
    · refine softR_val 46 _ (by kernel_rfl) rfl rfl ?_
      intro a W hx hout hdep
      have ev45 : a.tmps[45]?.getD undef = .pointer (some ⟨ba, 2, none⟩) := by rw [← Array.getD_eq_getD_getElem?]; exact (hdep ⟨14, .data⟩ (by simp) rfl 45 _ rfl).1
      have q0 := hx.keep c2
      refine ⟨rfl, .pointer (some ⟨q, 0, none⟩), W, ?_, rfl, Ext.refl _⟩
      simp [ev45, q0, execOp, go_sem]
    · refine softR_val 47 _ (by kernel_rfl) rfl rfl ?_
      intro a W hx hout hdep
      have ev46 : a.tmps[46]?.getD undef = .pointer (some ⟨q, 0, none⟩) := by rw [← Array.getD_eq_getD_getElem?]; exact (hdep ⟨15, .data⟩ (by simp) rfl 46 _ rfl).1
      refine ⟨rfl, .pointer (some ⟨q, 0, none⟩), W, ?_, rfl, Ext.refl _⟩
      simp [ev46, execOp, go_sem]
    · refine softR_val 48 _ (by kernel_rfl) rfl rfl ?_
      intro a W hx hout hdep
      have ev47 : a.tmps[47]?.getD undef = .pointer (some ⟨q, 0, none⟩) := by rw [← Array.getD_eq_getD_getElem?]; exact (hdep ⟨16, .data⟩ (by simp) rfl 47 _ rfl).1
      refine ⟨rfl, .pointer (some ⟨q, 2, none⟩), W, ?_, rfl, Ext.refl _⟩
      simp [ev47, execOp, go_sem]
    · refine softR_val 49 _ (by kernel_rfl) rfl rfl ?_
      intro a W hx hout hdep
      have ev48 : a.tmps[48]?.getD undef = .pointer (some ⟨q, 2, none⟩) := by rw [← Array.getD_eq_getD_getElem?]; exact (hdep ⟨17, .data⟩ (by simp) rfl 48 _ rfl).1
      have q0 := hx.keep d2
      refine ⟨rfl, .pointer (some ⟨s, 0, none⟩), W, ?_, rfl, Ext.refl _⟩
      simp [ev48, q0, execOp, go_sem]
    · refine softR_val 50 _ (by kernel_rfl) rfl rfl ?_
      intro a W hx hout hdep
      have ev1 : a.tmps[1]?.getD undef = .pointer (some ⟨bb, 0, none⟩) := by rw [← Array.getD_eq_getD_getElem?]; exact hout 1 (by show 1 ∉ [31, 32, 33, 34, 35, 36, 37, 38, 39, 40, 41, 42, 43, 44, 45, 46, 47, 48, 49, 50, 51]; decide)
      refine ⟨rfl, .pointer (some ⟨bb, 0, none⟩), W, ?_, rfl, Ext.refl _⟩
      simp [ev1, execOp, go_sem]
    · refine softR_call 51 _ (by kernel_rfl) rfl rfl ?_
      intro a W hx hout hdep
      have ev49 : a.tmps[49]?.getD undef = .pointer (some ⟨s, 0, none⟩) := by rw [← Array.getD_eq_getD_getElem?]; exact (hdep ⟨18, .data⟩ (by simp) rfl 49 _ rfl).1
      have ev50 : a.tmps[50]?.getD undef = .pointer (some ⟨bb, 0, none⟩) := by rw [← Array.getD_eq_getD_getElem?]; exact (hdep ⟨19, .data⟩ (by simp) rfl 50 _ rfl).1
      refine ⟨rfl, 73, #[.pointer (some ⟨s, 0, none⟩), .pointer (some ⟨bb, 0, none⟩)], ?_, ?_⟩
      · simp [ev49, ev50, execOp, go_sem]
      · exact (hj2.out W hx).mono (by rintro e W1 ⟨v, rfl, h1, h2⟩; exact ⟨v, rfl, h1, h2⟩)

set_option maxRecDepth 100000 in
set_option maxHeartbeats 16000000 in
theorem leanL_any {G : Nat → Prop} {ba bb : Nat} {x y tb : Tr} {w : World} (hA : AtP G w ba tb) (hB : AtP G w bb (.node x y)) (hG : Up G w) (hb0 : okR tb) (ha : okR (.node x y)) (hn : cnt tb + cnt (.node x y) ≤ 100000) (hsh : htT y < htT x → ∃ u z, x = .node u z) :
    Calls Try.prog 103 #[Vp ba, Vp bb] w (RetN G w (leanLt tb (.node x y))) := by
  obtain ⟨p, q, c1, c2, hX, hY⟩ := hB.left
  have g1 := hX.high
  have g2 := hY.high
  rw [cnt_node] at hn
  by_cases hh : htT x ≤ htT y
  · have hd : decide ((htT x : Int) ≤ (htT y : Int)) = true := by rw [decide_eq_true_eq]; omega
    have hres : leanLt tb (.node x y) = .node (.node tb x) y := by simp only [leanLt]; rw [if_pos hh]
    rw [hres]
    clear hres hsh
    generalize htT y = ky at *
    generalize htT x = kx at *
    obtain ⟨hx0, hy0⟩ := ha
    go_enter Try.func103, Try.ntmps103
    go_wp2_with fail
    go_quiet (fail)
    have x1 : Ext w (w.drewN nq) := (Ext.refl w).drewN nq
    have c1 := x1.keep c1
    have c2 := x1.keep c2
    generalize w.drewN nq = w1 at *
    have hj := Lib.hid (fun W (hx : Ext w1 W) => join_any (hA.ext (x1.trans hx)) (hX.ext (x1.trans hx)) (hG.ext (x1.trans hx)) hb0 hx0 (by omega))
    go_wp2_with fail
    refine wp_soft_frame Ext 10 (llTab2 G ba bb p q x y tb) (by kernel_rfl) (by kernel_rfl) (fun _ _ _ => Ext.trans) ((Ext.refl _).drew) rfl (by show List.Nodup [20, 21, 22, 23, 24, 25, 26, 27, 28, 29]; decide) (by show ∀ d ∈ [20, 21, 22, 23, 24, 25, 26, 27, 28, 29], d < 53; decide) (llTab2_mono G ba bb p q x y tb Ext (fun _ _ h => h)) ?_ ⟨?_, ?_, ?_, ?_, ?_, ?_, ?_, ?_, ?_, ?_, trivial⟩
    · intro W vs hT hR
      match vs, hT with
      | [v0, v1, v2, v3, v4, v5, v6, v7, v8, v9], ⟨e0, e1, e2, e3, e4, e5, e6, e7, e8, e9, _⟩ =>
        simp only [llTab2, List.map_cons, List.map_nil, List.zip_cons_cons, List.zip_nil_left, putAll, List.setIfInBounds_toArray, List.set_cons_zero, List.set_cons_succ, List.drop_succ_cons, List.drop_zero]
        simp only at e0 e1 e2 e3 e4 e6 e7 e8 e9
        obtain ⟨q5, e5, h5⟩ := e5
        rw [e0, e1, e2, e3, e4, e5, e6, e7, e8, e9]
        clear e0 e1 e2 e3 e4 e5 e6 e7 e8 e9 v0 v1 v2 v3 v4 v5 v6 v7 v8 v9
        go_wp2_with fail
        refine (join_any h5 (hY.ext (x1.trans hR)) (hG.ext (x1.trans hR)) ⟨hb0, hx0⟩ hy0 (by rw [cnt_node]; omega)).mono ?_
        rintro e w4 ⟨v4, rfl, o4, x4⟩
        go_wp2
        go_ret
        exact ⟨v4, rfl, o4, x1.trans (hR.trans x4)⟩
    · refine softR_val 20 _ (by kernel_rfl) rfl rfl ?_
      intro a W hx hout hdep
      have ev0 : a.tmps[0]?.getD undef = .pointer (some ⟨ba, 0, none⟩) := by rw [← Array.getD_eq_getD_getElem?]; exact hout 0 (by show 0 ∉ [20, 21, 22, 23, 24, 25, 26, 27, 28, 29]; decide)
      refine ⟨rfl, .pointer (some ⟨ba, 0, none⟩), W, ?_, rfl, Ext.refl _⟩
      simp [ev0, execOp, go_sem]
    · refine softR_val 21 _ (by kernel_rfl) rfl rfl ?_
      intro a W hx hout hdep
      have ev1 : a.tmps[1]?.getD undef = .pointer (some ⟨bb, 0, none⟩) := by rw [← Array.getD_eq_getD_getElem?]; exact hout 1 (by show 1 ∉ [20, 21, 22, 23, 24, 25, 26, 27, 28, 29]; decide)
      refine ⟨rfl, .pointer (some ⟨bb, 0, none⟩), W, ?_, rfl, Ext.refl _⟩
      simp [ev1, execOp, go_sem]
    · refine softR_val 22 _ (by kernel_rfl) rfl rfl ?_
      intro a W hx hout hdep
      have ev21 : a.tmps[21]?.getD undef = .pointer (some ⟨bb, 0, none⟩) := by rw [← Array.getD_eq_getD_getElem?]; exact (hdep ⟨1, .data⟩ (by simp) rfl 21 _ rfl).1
      refine ⟨rfl, .pointer (some ⟨bb, 0, none⟩), W, ?_, rfl, Ext.refl _⟩
      simp [ev21, execOp, go_sem]
    · refine softR_val 23 _ (by kernel_rfl) rfl rfl ?_
      intro a W hx hout hdep
      have ev22 : a.tmps[22]?.getD undef = .pointer (some ⟨bb, 0, none⟩) := by rw [← Array.getD_eq_getD_getElem?]; exact (hdep ⟨2, .data⟩ (by simp) rfl 22 _ rfl).1
      refine ⟨rfl, .pointer (some ⟨bb, 1, none⟩), W, ?_, rfl, Ext.refl _⟩
      simp [ev22, execOp, go_sem]
    · refine softR_val 24 _ (by kernel_rfl) rfl rfl ?_
      intro a W hx hout hdep
      have ev23 : a.tmps[23]?.getD undef = .pointer (some ⟨bb, 1, none⟩) := by rw [← Array.getD_eq_getD_getElem?]; exact (hdep ⟨3, .data⟩ (by simp) rfl 23 _ rfl).1
      have q0 := hx.keep c1
      refine ⟨rfl, .pointer (some ⟨p, 0, none⟩), W, ?_, rfl, Ext.refl _⟩
      simp [ev23, q0, execOp, go_sem]
    · refine softR_call 25 _ (by kernel_rfl) rfl rfl ?_
      intro a W hx hout hdep
      have ev20 : a.tmps[20]?.getD undef = .pointer (some ⟨ba, 0, none⟩) := by rw [← Array.getD_eq_getD_getElem?]; exact (hdep ⟨0, .data⟩ (by simp) rfl 20 _ rfl).1
      have ev24 : a.tmps[24]?.getD undef = .pointer (some ⟨p, 0, none⟩) := by rw [← Array.getD_eq_getD_getElem?]; exact (hdep ⟨4, .data⟩ (by simp) rfl 24 _ rfl).1
      refine ⟨rfl, 73, #[.pointer (some ⟨ba, 0, none⟩), .pointer (some ⟨p, 0, none⟩)], ?_, ?_⟩
      · simp [ev20, ev24, execOp, go_sem]
      · exact (hj.out W hx).mono (by rintro e W1 ⟨v, rfl, h1, h2⟩; exact ⟨v, rfl, h1, h2⟩)
    · refine softR_val 26 _ (by kernel_rfl) rfl rfl ?_
      intro a W hx hout hdep
      have ev1 : a.tmps[1]?.getD undef = .pointer (some ⟨bb, 0, none⟩) := by rw [← Array.getD_eq_getD_getElem?]; exact hout 1 (by show 1 ∉ [20, 21, 22, 23, 24, 25, 26, 27, 28, 29]; decide)
      refine ⟨rfl, .pointer (some ⟨bb, 0, none⟩), W, ?_, rfl, Ext.refl _⟩
      simp [ev1, execOp, go_sem]
    · refine softR_val 27 _ (by kernel_rfl) rfl rfl ?_
      intro a W hx hout hdep
      have ev26 : a.tmps[26]?.getD undef = .pointer (some ⟨bb, 0, none⟩) := by rw [← Array.getD_eq_getD_getElem?]; exact (hdep ⟨6, .data⟩ (by simp) rfl 26 _ rfl).1
      refine ⟨rfl, .pointer (some ⟨bb, 0, none⟩), W, ?_, rfl, Ext.refl _⟩
      simp [ev26, execOp, go_sem]
    · refine softR_val 28 _ (by kernel_rfl) rfl rfl ?_
      intro a W hx hout hdep
      have ev27 : a.tmps[27]?.getD undef = .pointer (some ⟨bb, 0, none⟩) := by rw [← Array.getD_eq_getD_getElem?]; exact (hdep ⟨7, .data⟩ (by simp) rfl 27 _ rfl).1
      refine ⟨rfl, .pointer (some ⟨bb, 2, none⟩), W, ?_, rfl, Ext.refl _⟩
      simp [ev27, execOp, go_sem]
    · refine softR_val 29 _ (by kernel_rfl) rfl rfl ?_
      intro a W hx hout hdep
      have ev28 : a.tmps[28]?.getD undef = .pointer (some ⟨bb, 2, none⟩) := by rw [← Array.getD_eq_getD_getElem?]; exact (hdep ⟨8, .data⟩ (by simp) rfl 28 _ rfl).1
      have q0 := hx.keep c2
      refine ⟨rfl, .pointer (some ⟨q, 0, none⟩), W, ?_, rfl, Ext.refl _⟩
      simp [ev28, q0, execOp, go_sem]
  · obtain ⟨u, z, rfl⟩ := hsh (by omega)
    obtain ⟨r, s, d1, d2, hX1, hX2⟩ := hX.left
    have hd : decide ((htT (.node u z) : Int) ≤ (htT y : Int)) = false := by rw [decide_eq_false_iff_not]; omega
    have hres : leanLt tb (.node (.node u z) y) = .node (.node tb u) (.node z y) := by simp only [leanLt]; rw [if_neg hh]
    rw [hres]
    clear hres hsh
    generalize htT (.node u z) = kx at *
    generalize htT y = ky at *
    obtain ⟨⟨hx0, hy0⟩, hz0⟩ := ha
    rw [cnt_node] at hn
    go_enter Try.func103, Try.ntmps103
    go_wp2_with fail
    go_quiet (fail)
    have x1 : Ext w (w.drewN nq) := (Ext.refl w).drewN nq
    have c1 := x1.keep c1
    have c2 := x1.keep c2
    have d1 := x1.keep d1
    have d2 := x1.keep d2
    generalize w.drewN nq = w1 at *
    have hj1 := Lib.hid (fun W (hx : Ext w1 W) => join_any (hA.ext (x1.trans hx)) (hX1.ext (x1.trans hx)) (hG.ext (x1.trans hx)) hb0 hx0 (by omega))
    have hj2 := Lib.hid (fun W (hx : Ext w1 W) => join_any (hX2.ext (x1.trans hx)) (hY.ext (x1.trans hx)) (hG.ext (x1.trans hx)) hy0 hz0 (by omega))
    go_wp2_with fail
    refine wp_soft_frame Ext 21 (llTab3 G ba bb p q r s y u z tb) (by kernel_rfl) (by kernel_rfl) (fun _ _ _ => Ext.trans) ((Ext.refl _).drew) rfl (by show List.Nodup [31, 32, 33, 34, 35, 36, 37, 38, 39, 40, 41, 42, 43, 44, 45, 46, 47, 48, 49, 50, 51]; decide) (by show ∀ d ∈ [31, 32, 33, 34, 35, 36, 37, 38, 39, 40, 41, 42, 43, 44, 45, 46, 47, 48, 49, 50, 51], d < 53; decide) (llTab3_mono G ba bb p q r s y u z tb Ext (fun _ _ h => h)) ?_ ⟨?_, ?_, ?_, ?_, ?_, ?_, ?_, ?_, ?_, ?_, ?_, ?_, ?_, ?_, ?_, ?_, ?_, ?_, ?_, ?_, ?_, trivial⟩
    · intro W vs hT hR
      match vs, hT with
      | [v0, v1, v2, v3, v4, v5, v6, v7, v8, v9, v10, v11, v12, v13, v14, v15, v16, v17, v18, v19, v20], ⟨e0, e1, e2, e3, e4, e5, e6, e7, e8, e9, e10, e11, e12, e13, e14, e15, e16, e17, e18, e19, e20, _⟩ =>
        simp only [llTab3, List.map_cons, List.map_nil, List.zip_cons_cons, List.zip_nil_left, putAll, List.setIfInBounds_toArray, List.set_cons_zero, List.set_cons_succ, List.drop_succ_cons, List.drop_zero]
        simp only at e0 e1 e2 e3 e4 e5 e6 e7 e9 e10 e11 e12 e13 e14 e15 e16 e17 e18 e19
        obtain ⟨q8, e8, h8⟩ := e8
        obtain ⟨q20, e20, h20⟩ := e20
        rw [e0, e1, e2, e3, e4, e5, e6, e7, e8, e9, e10, e11, e12, e13, e14, e15, e16, e17, e18, e19, e20]
        clear e0 e1 e2 e3 e4 e5 e6 e7 e8 e9 e10 e11 e12 e13 e14 e15 e16 e17 e18 e19 e20 v0 v1 v2 v3 v4 v5 v6 v7 v8 v9 v10 v11 v12 v13 v14 v15 v16 v17 v18 v19 v20
        go_wp2_with fail
        refine (join_any h8 h20 (hG.ext (x1.trans hR)) ⟨hb0, hx0⟩ ⟨hy0, hz0⟩ (by rw [cnt_node, cnt_node]; omega)).mono ?_
        rintro e w4 ⟨v4, rfl, o4, x4⟩
        go_wp2
        go_ret
        exact ⟨v4, rfl, o4, x1.trans (hR.trans x4)⟩
    · refine softR_val 31 _ (by kernel_rfl) rfl rfl ?_
      intro a W hx hout hdep
      have ev0 : a.tmps[0]?.getD undef = .pointer (some ⟨ba, 0, none⟩) := by rw [← Array.getD_eq_getD_getElem?]; exact hout 0 (by show 0 ∉ [31, 32, 33, 34, 35, 36, 37, 38, 39, 40, 41, 42, 43, 44, 45, 46, 47, 48, 49, 50, 51]; decide)
      refine ⟨rfl, .pointer (some ⟨ba, 0, none⟩), W, ?_, rfl, Ext.refl _⟩
      simp [ev0, execOp, go_sem]
    · refine softR_val 32 _ (by kernel_rfl) rfl rfl ?_
      intro a W hx hout hdep
      have ev1 : a.tmps[1]?.getD undef = .pointer (some ⟨bb, 0, none⟩) := by rw [← Array.getD_eq_getD_getElem?]; exact hout 1 (by show 1 ∉ [31, 32, 33, 34, 35, 36, 37, 38, 39, 40, 41, 42, 43, 44, 45, 46, 47, 48, 49, 50, 51]; decide)
      refine ⟨rfl, .pointer (some ⟨bb, 0, none⟩), W, ?_, rfl, Ext.refl _⟩
      simp [ev1, execOp, go_sem]
    · refine softR_val 33 _ (by kernel_rfl) rfl rfl ?_
      intro a W hx hout hdep
      have ev32 : a.tmps[32]?.getD undef = .pointer (some ⟨bb, 0, none⟩) := by rw [← Array.getD_eq_getD_getElem?]; exact (hdep ⟨1, .data⟩ (by simp) rfl 32 _ rfl).1
      refine ⟨rfl, .pointer (some ⟨bb, 0, none⟩), W, ?_, rfl, Ext.refl _⟩
      simp [ev32, execOp, go_sem]
    · refine softR_val 34 _ (by kernel_rfl) rfl rfl ?_
      intro a W hx hout hdep
      have ev33 : a.tmps[33]?.getD undef = .pointer (some ⟨bb, 0, none⟩) := by rw [← Array.getD_eq_getD_getElem?]; exact (hdep ⟨2, .data⟩ (by simp) rfl 33 _ rfl).1
      refine ⟨rfl, .pointer (some ⟨bb, 1, none⟩), W, ?_, rfl, Ext.refl _⟩
      simp [ev33, execOp, go_sem]
    · refine softR_val 35 _ (by kernel_rfl) rfl rfl ?_
      intro a W hx hout hdep
      have ev34 : a.tmps[34]?.getD undef = .pointer (some ⟨bb, 1, none⟩) := by rw [← Array.getD_eq_getD_getElem?]; exact (hdep ⟨3, .data⟩ (by simp) rfl 34 _ rfl).1
      have q0 := hx.keep c1
      refine ⟨rfl, .pointer (some ⟨p, 0, none⟩), W, ?_, rfl, Ext.refl _⟩
      simp [ev34, q0, execOp, go_sem]
    · refine softR_val 36 _ (by kernel_rfl) rfl rfl ?_
      intro a W hx hout hdep
      have ev35 : a.tmps[35]?.getD undef = .pointer (some ⟨p, 0, none⟩) := by rw [← Array.getD_eq_getD_getElem?]; exact (hdep ⟨4, .data⟩ (by simp) rfl 35 _ rfl).1
      refine ⟨rfl, .pointer (some ⟨p, 0, none⟩), W, ?_, rfl, Ext.refl _⟩
      simp [ev35, execOp, go_sem]
    · refine softR_val 37 _ (by kernel_rfl) rfl rfl ?_
      intro a W hx hout hdep
      have ev36 : a.tmps[36]?.getD undef = .pointer (some ⟨p, 0, none⟩) := by rw [← Array.getD_eq_getD_getElem?]; exact (hdep ⟨5, .data⟩ (by simp) rfl 36 _ rfl).1
      refine ⟨rfl, .pointer (some ⟨p, 1, none⟩), W, ?_, rfl, Ext.refl _⟩
      simp [ev36, execOp, go_sem]
    · refine softR_val 38 _ (by kernel_rfl) rfl rfl ?_
      intro a W hx hout hdep
      have ev37 : a.tmps[37]?.getD undef = .pointer (some ⟨p, 1, none⟩) := by rw [← Array.getD_eq_getD_getElem?]; exact (hdep ⟨6, .data⟩ (by simp) rfl 37 _ rfl).1
      have q0 := hx.keep d1
      refine ⟨rfl, .pointer (some ⟨r, 0, none⟩), W, ?_, rfl, Ext.refl _⟩
      simp [ev37, q0, execOp, go_sem]
    · refine softR_call 39 _ (by kernel_rfl) rfl rfl ?_
      intro a W hx hout hdep
      have ev31 : a.tmps[31]?.getD undef = .pointer (some ⟨ba, 0, none⟩) := by rw [← Array.getD_eq_getD_getElem?]; exact (hdep ⟨0, .data⟩ (by simp) rfl 31 _ rfl).1
      have ev38 : a.tmps[38]?.getD undef = .pointer (some ⟨r, 0, none⟩) := by rw [← Array.getD_eq_getD_getElem?]; exact (hdep ⟨7, .data⟩ (by simp) rfl 38 _ rfl).1
      refine ⟨rfl, 73, #[.pointer (some ⟨ba, 0, none⟩), .pointer (some ⟨r, 0, none⟩)], ?_, ?_⟩
      · simp [ev31, ev38, execOp, go_sem]
      · exact (hj1.out W hx).mono (by rintro e W1 ⟨v, rfl, h1, h2⟩; exact ⟨v, rfl, h1, h2⟩)
    · refine softR_val 40 _ (by kernel_rfl) rfl rfl ?_
      intro a W hx hout hdep
      have ev1 : a.tmps[1]?.getD undef = .pointer (some ⟨bb, 0, none⟩) := by rw [← Array.getD_eq_getD_getElem?]; exact hout 1 (by show 1 ∉ [31, 32, 33, 34, 35, 36, 37, 38, 39, 40, 41, 42, 43, 44, 45, 46, 47, 48, 49, 50, 51]; decide)
      refine ⟨rfl, .pointer (some ⟨bb, 0, none⟩), W, ?_, rfl, Ext.refl _⟩
      simp [ev1, execOp, go_sem]
    · refine softR_val 41 _ (by kernel_rfl) rfl rfl ?_
      intro a W hx hout hdep
      have ev40 : a.tmps[40]?.getD undef = .pointer (some ⟨bb, 0, none⟩) := by rw [← Array.getD_eq_getD_getElem?]; exact (hdep ⟨9, .data⟩ (by simp) rfl 40 _ rfl).1
      refine ⟨rfl, .pointer (some ⟨bb, 0, none⟩), W, ?_, rfl, Ext.refl _⟩
      simp [ev40, execOp, go_sem]
    · refine softR_val 42 _ (by kernel_rfl) rfl rfl ?_
      intro a W hx hout hdep
      have ev41 : a.tmps[41]?.getD undef = .pointer (some ⟨bb, 0, none⟩) := by rw [← Array.getD_eq_getD_getElem?]; exact (hdep ⟨10, .data⟩ (by simp) rfl 41 _ rfl).1
      refine ⟨rfl, .pointer (some ⟨bb, 1, none⟩), W, ?_, rfl, Ext.refl _⟩
      simp [ev41, execOp, go_sem]
    · refine softR_val 43 _ (by kernel_rfl) rfl rfl ?_
      intro a W hx hout hdep
      have ev42 : a.tmps[42]?.getD undef = .pointer (some ⟨bb, 1, none⟩) := by rw [← Array.getD_eq_getD_getElem?]; exact (hdep ⟨11, .data⟩ (by simp) rfl 42 _ rfl).1
      have q0 := hx.keep c1
      refine ⟨rfl, .pointer (some ⟨p, 0, none⟩), W, ?_, rfl, Ext.refl _⟩
      simp [ev42, q0, execOp, go_sem]
    · refine softR_val 44 _ (by kernel_rfl) rfl rfl ?_
      intro a W hx hout hdep
      have ev43 : a.tmps[43]?.getD undef = .pointer (some ⟨p, 0, none⟩) := by rw [← Array.getD_eq_getD_getElem?]; exact (hdep ⟨12, .data⟩ (by simp) rfl 43 _ rfl).1
      refine ⟨rfl, .pointer (some ⟨p, 0, none⟩), W, ?_, rfl, Ext.refl _⟩
      simp [ev43, execOp, go_sem]
    · refine softR_val 45 _ (by kernel_rfl) rfl rfl ?_
      intro a W hx hout hdep
      have ev44 : a.tmps[44]?.getD undef = .pointer (some ⟨p, 0, none⟩) := by rw [← Array.getD_eq_getD_getElem?]; exact (hdep ⟨13, .data⟩ (by simp) rfl 44 _ rfl).1
      refine ⟨rfl, .pointer (some ⟨p, 2, none⟩), W, ?_, rfl, Ext.refl _⟩
      simp [ev44, execOp, go_sem]
    · refine softR_val 46 _ (by kernel_rfl) rfl rfl ?_
      intro a W hx hout hdep
      have ev45 : a.tmps[45]?.getD undef = .pointer (some ⟨p, 2, none⟩) := by rw [← Array.getD_eq_getD_getElem?]; exact (hdep ⟨14, .data⟩ (by simp) rfl 45 _ rfl).1
      have q0 := hx.keep d2
      refine ⟨rfl, .pointer (some ⟨s, 0, none⟩), W, ?_, rfl, Ext.refl _⟩
      simp [ev45, q0, execOp, go_sem]
    · refine softR_val 47 _ (by kernel_rfl) rfl rfl ?_
      intro a W hx hout hdep
      have ev1 : a.tmps[1]?.getD undef = .pointer (some ⟨bb, 0, none⟩) := by rw [← Array.getD_eq_getD_getElem?]; exact hout 1 (by show 1 ∉ [31, 32, 33, 34, 35, 36, 37, 38, 39, 40, 41, 42, 43, 44, 45, 46, 47, 48, 49, 50, 51]; decide)
      refine ⟨rfl, .pointer (some ⟨bb, 0, none⟩), W, ?_, rfl, Ext.refl _⟩
      simp [ev1, execOp, go_sem]
    · refine softR_val 48 _ (by kernel_rfl) rfl rfl ?_
      intro a W hx hout hdep
      have ev47 : a.tmps[47]?.getD undef = .pointer (some ⟨bb, 0, none⟩) := by rw [← Array.getD_eq_getD_getElem?]; exact (hdep ⟨16, .data⟩ (by simp) rfl 47 _ rfl).1
      refine ⟨rfl, .pointer (some ⟨bb, 0, none⟩), W, ?_, rfl, Ext.refl _⟩
      simp [ev47, execOp, go_sem]
    · refine softR_val 49 _ (by kernel_rfl) rfl rfl ?_
      intro a W hx hout hdep
      have ev48 : a.tmps[48]?.getD undef = .pointer (some ⟨bb, 0, none⟩) := by rw [← Array.getD_eq_getD_getElem?]; exact (hdep ⟨17, .data⟩ (by simp) rfl 48 _ rfl).1
      refine ⟨rfl, .pointer (some ⟨bb, 2, none⟩), W, ?_, rfl, Ext.refl _⟩
      simp [ev48, execOp, go_sem]
    · refine softR_val 50 _ (by kernel_rfl) rfl rfl ?_
      intro a W hx hout hdep
      have ev49 : a.tmps[49]?.getD undef = .pointer (some ⟨bb, 2, none⟩) := by rw [← Array.getD_eq_getD_getElem?]; exact (hdep ⟨18, .data⟩ (by simp) rfl 49 _ rfl).1
      have q0 := hx.keep c2
      refine ⟨rfl, .pointer (some ⟨q, 0, none⟩), W, ?_, rfl, Ext.refl _⟩
      simp [ev49, q0, execOp, go_sem]
    · refine softR_call 51 _ (by kernel_rfl) rfl rfl ?_
      intro a W hx hout hdep
      have ev46 : a.tmps[46]?.getD undef = .pointer (some ⟨s, 0, none⟩) := by rw [← Array.getD_eq_getD_getElem?]; exact (hdep ⟨15, .data⟩ (by simp) rfl 46 _ rfl).1
      have ev50 : a.tmps[50]?.getD undef = .pointer (some ⟨q, 0, none⟩) := by rw [← Array.getD_eq_getD_getElem?]; exact (hdep ⟨19, .data⟩ (by simp) rfl 50 _ rfl).1
      refine ⟨rfl, 73, #[.pointer (some ⟨s, 0, none⟩), .pointer (some ⟨q, 0, none⟩)], ?_, ?_⟩
      · simp [ev46, ev50, execOp, go_sem]
      · exact (hj2.out W hx).mono (by rintro e W1 ⟨v, rfl, h1, h2⟩; exact ⟨v, rfl, h1, h2⟩)

theorem lean_form {t : Tr} {n : Nat} (h : n + 1 < htT t) : ∃ x y, t = .node x y ∧ (htT x < htT y → ∃ u v, y = .node u v) ∧ (htT y < htT x → ∃ u v, x = .node u v) := by
  cases t with
  | leaf l => simp [htT] at h
  | node x y =>
    refine ⟨x, y, rfl, fun h2 => ?_, fun h2 => ?_⟩
    · cases y with
      | leaf l => simp [htT] at h2
      | node u v => exact ⟨u, v, rfl⟩
    · cases x with
      | leaf l => simp [htT] at h2
      | node u v => exact ⟨u, v, rfl⟩

set_option maxRecDepth 100000 in
set_option maxHeartbeats 16000000 in
theorem bal_any {G : Nat → Prop} {ba bb : Nat} {ta tb : Tr} {w : World} (hA : AtP G w ba ta) (hB : AtP G w bb tb) (hG : Up G w) (ha : okR ta) (hb : okR tb) (hn : cnt ta + cnt tb ≤ 100000) :
    Calls Try.prog 82 #[Vp ba, Vp bb] w (RetN G w (balTr ta tb)) := by
  have g1 := hA.high
  have g2 := hB.high
  have hta := ht_lt ha
  have htb := ht_lt hb
  by_cases h1 : htT tb + 1 < htT ta
  · have hres : balTr ta tb = leanRt ta tb := by unfold balTr; rw [if_pos h1]
    rw [hres]
    clear hres
    have hd : decide (((htT tb : Int) + 1) < (htT ta : Int)) = true := by rw [decide_eq_true_eq]; omega
    have hc := Lib.hid (fun W (hx : Ext w W) => show Calls Try.prog 102 #[Vp ba, Vp bb] W (RetN G W (leanRt ta tb)) by
      obtain ⟨x, y, rfl, hs, _⟩ := lean_form h1
      exact leanR_any (hA.ext hx) (hB.ext hx) (hG.ext hx) ha hb hn hs)
    generalize htT ta = na at *
    generalize htT tb = nb at *
    go_enter Try.func82, Try.ntmps82
    go_wp2_with fail
    go_quiet (fail)
    have x1 : Ext w (w.drewN nq) := (Ext.refl w).drewN nq
    generalize w.drewN nq = w1 at *
    go_wp2_with fail
    refine (hc.out _ x1).mono ?_
    rintro e w4 ⟨v4, rfl, o4, x4⟩
    go_wp2
    go_ret
    exact ⟨v4, rfl, o4, x1.trans x4⟩
  · have hd : decide (((htT tb : Int) + 1) < (htT ta : Int)) = false := by rw [decide_eq_false_iff_not]; omega
    by_cases h2 : htT ta + 1 < htT tb
    · have hres : balTr ta tb = leanLt ta tb := by unfold balTr; rw [if_neg h1, if_pos h2]
      rw [hres]
      clear hres
      have hd2 : decide (((htT ta : Int) + 1) < (htT tb : Int)) = true := by rw [decide_eq_true_eq]; omega
      have hc := Lib.hid (fun W (hx : Ext w W) => show Calls Try.prog 103 #[Vp ba, Vp bb] W (RetN G W (leanLt ta tb)) by
        obtain ⟨x, y, rfl, _, hs⟩ := lean_form h2
        exact leanL_any (hA.ext hx) (hB.ext hx) (hG.ext hx) ha hb hn hs)
      generalize htT ta = na at *
      generalize htT tb = nb at *
      go_enter Try.func82, Try.ntmps82
      go_wp2_with fail
      go_quiet (fail)
      have x1 : Ext w (w.drewN nq) := (Ext.refl w).drewN nq
      have g1 := x1.keep g1
      have g2 := x1.keep g2
      generalize w.drewN nq = w1 at *
      go_wp2_with fail
      go_quiet (fail)
      have x2 : Ext w (w1.drewN nq) := x1.drewN nq
      generalize w1.drewN nq = w2 at *
      go_wp2_with fail
      refine (hc.out _ x2).mono ?_
      rintro e w4 ⟨v4, rfl, o4, x4⟩
      go_wp2
      go_ret
      exact ⟨v4, rfl, o4, x2.trans x4⟩
    · have hres : balTr ta tb = .node ta tb := by unfold balTr; rw [if_neg h1, if_neg h2]
      rw [hres]
      clear hres
      have hd2 : decide (((htT ta : Int) + 1) < (htT tb : Int)) = false := by rw [decide_eq_false_iff_not]; omega
      have hc := Lib.hid (fun W (hx : Ext w W) => join_any (hA.ext hx) (hB.ext hx) (hG.ext hx) ha hb hn)
      generalize htT ta = na at *
      generalize htT tb = nb at *
      go_enter Try.func82, Try.ntmps82
      go_wp2_with fail
      go_quiet (fail)
      have x1 : Ext w (w.drewN nq) := (Ext.refl w).drewN nq
      have g1 := x1.keep g1
      have g2 := x1.keep g2
      generalize w.drewN nq = w1 at *
      go_wp2_with fail
      go_quiet (fail)
      have x2 : Ext w (w1.drewN nq) := x1.drewN nq
      generalize w1.drewN nq = w2 at *
      go_wp2_with fail
      refine (hc.out _ x2).mono ?_
      rintro e w4 ⟨v4, rfl, o4, x4⟩
      go_wp2
      go_ret
      exact ⟨v4, rfl, o4, x2.trans x4⟩

end Go.Proofs.Ytmpomammieenjaa

namespace Go.Proofs.Ytmpomammieenjaa
open Go.ChangeShapes Go.WideShapes Go.ChangeAt Go.RowKit Go.Sort
set_option linter.unusedVariables false
set_option linter.unusedSimpArgs false

def depB (ops : Array Oper) (j i : Nat) : Bool := match ops[j]? with
  | some o => o.after.toList.any fun e => Region.binds .any e && e.on == i
  | none => false
theorem depB_spec {ops : Array Oper} {j i : Nat} (h : depB ops j i = true) : ∃ o, ops[j]? = some o ∧ ∃ e ∈ o.after.toList, Region.binds .any e = true ∧ e.on = i := by
  unfold depB at h
  split at h
  · rename_i o ho
    obtain ⟨e, he, hb⟩ := List.any_eq_true.1 h
    rw [Bool.and_eq_true, beq_iff_eq] at hb
    exact ⟨o, ho, e, he, hb.1, hb.2⟩
  · cases h
end Go.Proofs.Ytmpomammieenjaa

namespace Go.Proofs.Ytmpomammieenjaa
open Go.ChangeShapes Go.WideShapes Go.ChangeAt Go.RowKit Go.Sort
set_option linter.unusedVariables false
set_option linter.unusedSimpArgs false

def SoftStepW (k0 : Nat) (Pre : World → Prop) (Rel : World → World → Prop) (P : Program) (ops : Array Oper) (tab : SoftTab) (Q : Exit → Act → World → Prop) (a0 : Act) (w : World) (k : Nat) (o : Oper) : Prop :=
  ∀ a W, Rel w W → (depB ops k0 k = true → Pre W) → (∀ t, t ∉ tab.map (·.1) → a.tmps.getD t undef = a0.tmps.getD t undef) → (∀ e ∈ o.after.toList, Region.binds .any e = true → ∀ (d : Nat) (R : Told), tab[e.on]? = some (d, R) → R (a.tmps.getD d undef) W ∧ d < a.tmps.size) →
    ∀ (d : Nat) (R : Told), tab[k]? = some (d, R) → wpOp P ops Q k (fun a' W' => ∃ v, a' = a.put (some d) v ∧ R v W' ∧ Ext W W') a W
theorem wpAny_softW {Rel : World → World → Prop} {k0 : Nat} {Pre Post : World → Prop} {P : Program} {ops : Array Oper} {n : Nat} {tab : SoftTab} {Q : Exit → Act → World → Prop} {a0 : Act} {w : World} {rest : List Oper}
    (htrans : ∀ a b c, Rel a b → Rel b c → Rel a c)
    (hlen : tab.length = n) (hnd : (tab.map (·.1)).Nodup) (hsz : ∀ d ∈ tab.map (·.1), d < a0.tmps.size)
    (hn : n < ops.size) (hs : Region.sinkB .any ops n = true) (hc : Region.chainB .any ops n = true)
    (hback : ∀ (k : Nat) (o : Oper), k < n → ops[k]? = some o → ∀ e ∈ o.after.toList, Region.binds .any e = true → e.on < k)
    (hmono : ∀ (k d : Nat) (R : Told), tab[k]? = some (d, R) → ∀ (v : Value) (W W' : World), R v W → Rel W W' → R v W')
    (hsub : ∀ a b, Ext a b → Rel a b) (hpre : ∀ a b, Ext a b → Pre a → Pre b) (hpost : ∀ a b, Ext a b → Post a → Post b) (hk0 : k0 < n)
    (hstep : ∀ (k : Nat) (o : Oper), k < n → k ≠ k0 → ops[k]? = some o → SoftStepW k0 Pre Rel P ops tab Q a0 w k o) (hcall : ∀ o, ops[k0]? = some o → SoftStepC Rel Pre Post P ops tab Q a0 w k0 o)
    (hrest : ∀ j, rest[j]? = ops[n + j]?) (hrl : rest.length = ops.size - n) (hseq : Region.seqB .any ops rest.length n (doneTo n ops.size) = true)
    (hend : ∀ a W, SoftAtP Rel k0 Pre Post tab a0 a w W (doneTo n ops.size) → wpList P ops Q rest a W) :
    ∀ (f : Nat) (listed : Array Bool) (a : Act) (W : World), HeadInv .any ops n listed → (listed.toList.take n).count false = f → SoftAtP Rel k0 Pre Post tab a0 a w W listed → wpAny P .any ops Q (f + rest.length) listed a W := by
  intro f
  induction f with
  | zero =>
    intro listed a W inv hcnt hI
    have e : listed = doneTo n ops.size := by
      apply Array.ext
      · rw [inv.size]; simp [doneTo]; omega
      · intro i h1 h2
        rcases Nat.lt_or_ge i n with h | h
        · have hm : listed[i] ∈ listed.toList.take n := by
            rw [List.mem_take_iff_getElem]
            exact ⟨i, by simp; omega, by simp⟩
          have hne : listed[i] ≠ false := fun e => by
            rw [e] at hm
            have := List.count_pos_iff.2 hm
            omega
          have : listed[i] = true := by simpa using hne
          rw [this]
          simp [doneTo, h]
        · have := inv.tail i h (by rw [← inv.size]; exact h1)
          have h3 : listed[i] = false := by simpa [Array.getD, h1] using this
          rw [h3]
          simp [doneTo, List.getElem_append, Nat.not_lt.2 h]
    subst e
    rw [Nat.zero_add]
    exact wpAny_of_seq (md := .any) rest n _ a W hrest hseq (hend a W hI)
  | succ f ih =>
    intro listed a W inv hcnt hI
    have hex : ∃ i, i < n ∧ listed.getD i true = false := by
      have hm : false ∈ listed.toList.take n := List.count_pos_iff.1 (by omega)
      rw [List.mem_take_iff_getElem] at hm
      obtain ⟨i, h1, h2⟩ := hm
      have h1' : i < n ∧ i < listed.size := by simp at h1; omega
      refine ⟨i, h1'.1, ?_⟩
      simp [Array.getD, h1'.2]
      simpa using h2
    obtain ⟨i0, hi0, hun0⟩ := hex
    rw [show f + 1 + rest.length = (f + rest.length) + 1 by omega]
    refine ⟨fun hr => ?_, fun i hi => ?_⟩
    · exfalso
      have key : ∀ k, k < n → listed.getD k false = true := by
        intro k
        induction k using Nat.strongRecOn with
        | ind k ihk =>
          intro hk
          rcases hb : listed.getD k false with _ | _
          · exfalso
            have hk' : k < listed.size := by rw [inv.size]; omega
            have hk2 : k < ops.size := by omega
            have hm : k ∈ Region.ready .any ops listed := by
              rw [mem_ready]
              refine ⟨getD_in hk' hb, ops[k], by simp [hk2], fun e he hb' => ?_⟩
              have hlt := hback k ops[k] hk (by simp [hk2]) e (by simpa using he) hb'
              exact ihk e.on hlt (by omega)
            rw [hr] at hm
            cases hm
          · rfl
      have h9 := key i0 hi0
      rw [getD_both hun0] at h9
      cases h9
    · have hin : i < n := by
        rcases Nat.lt_or_ge i n with h | h
        · exact h
        · exact absurd hi (tail_waits hs hc hn inv _ i0 rfl hi0 hun0 i h)
      obtain ⟨h1, o, ho, hdep⟩ := mem_ready.1 hi
      obtain ⟨⟨d, R⟩, htab⟩ : ∃ p, tab[i]? = some p := ⟨tab[i], List.getElem?_eq_getElem (by omega)⟩
      have hdsz : d < a.tmps.size := by rw [hI.size]; exact hsz d (List.mem_map.2 ⟨(d, R), List.mem_of_getElem? htab, rfl⟩)
      have hdeps : ∀ e ∈ o.after.toList, Region.binds .any e = true → ∀ (d' : Nat) (R' : Told), tab[e.on]? = some (d', R') → R' (a.tmps.getD d' undef) W ∧ d' < a.tmps.size := fun e he hb d' R' ht' =>
        ⟨hI.told e.on d' R' ht' (hdep e (by simpa using he) hb), by rw [hI.size]; exact hsz d' (List.mem_map.2 ⟨(d', R'), List.mem_of_getElem? ht', rfl⟩)⟩
      have hst : wpOp P ops Q i (fun a' W' => ∃ v, a' = a.put (some d) v ∧ R v W' ∧ Rel W W' ∧ ((listed.setIfInBounds i true).getD k0 false = true → Post W') ∧ ((listed.setIfInBounds i true).getD k0 false = false → Pre W')) a W := by
        by_cases hik : i = k0
        · subst hik
          have hf : listed.getD i false = false := getD_both h1
          refine wpOp_mono (fun a' W' hh => ?_) (hcall o ho a W hI.rel (hI.phase.2 hf) (fun t ht => by simp only [Array.getD_eq_getD_getElem?, hI.out t ht]) hdeps d R htab)
          obtain ⟨v, e1, e2, e3, e4⟩ := hh
          have hil' : i < listed.size := by rw [inv.size]; omega
          exact ⟨v, e1, e2, e3, fun _ => e4, fun hh => by simp [hil'] at hh⟩
        · refine wpOp_mono (fun a' W' hh => ?_) (hstep i o hin hik ho a W hI.rel (fun hd0 => hI.phase.2 (by
            rcases hbk : listed.getD k0 false with _ | _
            · rfl
            · obtain ⟨o0, ho0, e0, he0, hb0, hon⟩ := depB_spec hd0
              have h7 := inv.closed k0 o0 ho0 hbk e0 (by simpa using he0) hb0
              rw [hon, getD_both h1] at h7
              cases h7)) (fun t ht => by simp only [Array.getD_eq_getD_getElem?, hI.out t ht]) hdeps d R htab)
          obtain ⟨v, e1, e2, e3⟩ := hh
          refine ⟨v, e1, e2, hsub _ _ e3, fun hh => hpost _ _ e3 (hI.phase.1 ?_), fun hh => hpre _ _ e3 (hI.phase.2 ?_)⟩
          · rw [getD_set_ne false hik] at hh; exact hh
          · rw [getD_set_ne false hik] at hh; exact hh
      refine wpOp_mono (fun a' W' hh => ?_) hst
      obtain ⟨v, rfl, hR, hx, hph⟩ := hh
      have hil' : i < listed.size := by rw [inv.size]; omega
      refine ih _ _ _ (inv.set hi hin) ?_ ⟨htrans _ _ _ hI.rel hx, hph, hI.defers, by simp only [Act.put, Array.size_setIfInBounds]; exact hI.size, ?_, ?_⟩
      · have e : (listed.toList.take n)[i]? = some false := by
          have h3 : listed[i] = false := by simpa [Array.getD, hil'] using h1
          rw [List.getElem?_take, if_pos hin]
          simp [hil', h3]
        have := count_set (listed.toList.take n) i e
        rw [Array.toList_setIfInBounds, List.take_set]
        omega
      · intro t ht
        have hne : d ≠ t := fun e => ht (e ▸ List.mem_map.2 ⟨(d, R), List.mem_of_getElem? htab, rfl⟩)
        simp only [Act.put]
        rw [Array.getElem?_setIfInBounds_ne hne]
        exact hI.out t ht
      · intro k d2 R2 ht2 hl2
        simp only [Act.put]
        by_cases hki : k = i
        · subst hki
          obtain ⟨rfl, rfl⟩ : d = d2 ∧ R = R2 := by rw [htab] at ht2; injection ht2 with e; injection e with e1 e2; exact ⟨e1, e2⟩
          simp [hdsz]
          exact hR
        · have hne : d ≠ d2 := tab_ne hnd htab ht2 (fun e => hki e.symm)
          have h3 : listed.getD k false = true := by rw [getD_set_ne false (fun e => hki e.symm)] at hl2; exact hl2
          have := hmono k d2 R2 ht2 _ _ _ (hI.told k d2 R2 ht2 h3) hx
          simp only [Array.getD_eq_getD_getElem?, Array.getElem?_setIfInBounds_ne hne]
          simp only [Array.getD_eq_getD_getElem?] at this
          exact this

def SoftAllW (Rel : World → World → Prop) (k0 : Nat) (Pre Post : World → Prop) (P : Program) (ops : Array Oper) (tab : SoftTab) (Q : Exit → Act → World → Prop) (a0 : Act) (w : World) : List Oper → Nat → Prop
  | [], _ => True
  | o :: r, k => (if k = k0 then SoftStepC Rel Pre Post P ops tab Q a0 w k o else SoftStepW k0 Pre Rel P ops tab Q a0 w k o) ∧ SoftAllW Rel k0 Pre Post P ops tab Q a0 w r (k + 1)
theorem softAllW_spec {Rel : World → World → Prop} {k0 : Nat} {Pre Post : World → Prop} {P : Program} {ops : Array Oper} {tab : SoftTab} {Q : Exit → Act → World → Prop} {a0 : Act} {w : World} : ∀ (l : List Oper) (k : Nat), SoftAllW Rel k0 Pre Post P ops tab Q a0 w l k → ∀ (j : Nat) (o : Oper), l[j]? = some o →
    if k + j = k0 then SoftStepC Rel Pre Post P ops tab Q a0 w (k + j) o else SoftStepW k0 Pre Rel P ops tab Q a0 w (k + j) o
  | [], _, _, j, o, h => by simp at h
  | x :: l, k, h, 0, o, ho => by
    obtain rfl : x = o := by simpa using ho
    exact h.1
  | x :: l, k, h, j + 1, o, ho => by
    have := softAllW_spec l (k + 1) h.2 j o (by simpa using ho)
    rwa [Nat.add_assoc, Nat.add_comm 1 j] at this
theorem wp_soft_tailW (Rel : World → World → Prop) (k0 : Nat) (Pre Post : World → Prop) {P : Program} {l : List Oper} (n : Nat) (tab : SoftTab) {Q : Exit → Act → World → Prop} {a : Act} {w : World} {id : Nat} (hm : P.follows .mixedOrders = true)
    (hform : softForm n l = true) (htrans : ∀ a b c, Rel a b → Rel b c → Rel a c) (hsub : ∀ a b, Ext a b → Rel a b) (hpre : ∀ a b, Ext a b → Pre a → Pre b) (hpost : ∀ a b, Ext a b → Post a → Post b) (hk0 : k0 < n) (hw : Pre w)
    (hlen : tab.length = n) (hnd : (tab.map (·.1)).Nodup) (hsz : ∀ d ∈ tab.map (·.1), d < a.tmps.size) (hmono : SoftMonoR Rel tab)
    (hend : ∀ a' W, SoftAtP Rel k0 Pre Post tab a a' w W (doneTo n l.length) → wpList P l.toArray Q (l.drop n) a' W)
    (hstep : SoftAllW Rel k0 Pre Post P l.toArray tab Q a w (l.take n) 0) : (Code.region id l.toArray true).wp P Q a w := by
  unfold softForm at hform
  simp only [Bool.and_eq_true, decide_eq_true_eq] at hform
  obtain ⟨⟨⟨⟨hn, hs⟩, hc⟩, hb⟩, hq⟩ := hform
  have hdl : (l.drop n).length = l.length - n := by simp
  have inv0 : HeadInv .any l.toArray n (Array.replicate l.toArray.size false) :=
    ⟨by simp, fun j oj _ hl => (by rw [getD_replicate_false] at hl; cases hl), fun t _ ht => getD_in (by simpa using ht) (getD_replicate_false _ _)⟩
  refine wp_region_any hm ?_
  have := wpAny_softW (Rel := Rel) (k0 := k0) (Pre := Pre) (Post := Post) (P := P) (ops := l.toArray) (n := n) (tab := tab) (Q := Q) (a0 := a) (w := w) (rest := l.drop n) htrans hlen hnd hsz (by simpa using hn) hs hc
    (fun k o hk ho => softBackN_spec hb k o hk (by simpa using ho)) (fun k d R h v W W' => hmono (d, R) (List.mem_of_getElem? h) v W W')
    hsub hpre hpost hk0
    (fun k o hk hne ho => by
      have := softAllW_spec (l.take n) 0 hstep k o (by rw [List.getElem?_take, if_pos hk]; simpa using ho)
      rw [Nat.zero_add, if_neg hne] at this
      exact this)
    (fun o ho => by
      have := softAllW_spec (l.take n) 0 hstep k0 o (by rw [List.getElem?_take, if_pos hk0]; simpa using ho)
      rw [Nat.zero_add, if_pos rfl] at this
      exact this)
    (fun j => by simp [List.getElem?_drop]) (by simp) (by rw [hdl]; simpa using hq) (fun a' W h => hend a' W (by simpa using h)) n (Array.replicate l.toArray.size false) a { w with drawn := w.drawn + 1 } inv0
    (by
      simp
      omega) ⟨hsub _ _ ((Ext.refl w).drew), ⟨fun hh => (by rw [getD_replicate_false] at hh; cases hh), fun _ => hpre _ _ ((Ext.refl w).drew) hw⟩, rfl, rfl, fun _ _ => rfl, fun k d R h1 h2 => by rw [getD_replicate_false] at h2; cases h2⟩
  rw [hdl] at this
  have e : n + (l.length - n) = l.toArray.size := by simp; omega
  rw [e] at this
  exact this

theorem softW_val {k0 : Nat} {Pre : World → Prop} {Rel : World → World → Prop} {P : Program} {ops : Array Oper} {tab : SoftTab} {Q : Exit → Act → World → Prop} {a0 : Act} {w : World} {k : Nat} {o : Oper} (d : Nat) (R : Told) (hk : ops[k]? = some o) (hd : o.dst = some d) (htab : tab[k]? = some (d, R))
    (h : ∀ (a : Act) (W : World), Rel w W → (depB ops k0 k = true → Pre W) → (∀ t, t ∉ tab.map (·.1) → a.tmps.getD t undef = a0.tmps.getD t undef) → (∀ e ∈ o.after.toList, Region.binds .any e = true → ∀ (d : Nat) (R : Told), tab[e.on]? = some (d, R) → R (a.tmps.getD d undef) W ∧ d < a.tmps.size) →
      Region.wanted o (yielded ops a.tmps) = true ∧ ∃ v W', (execOp a.eval o).run P W = .ok (.value v) W' ∧ R v W' ∧ Ext W W') : SoftStepW k0 Pre Rel P ops tab Q a0 w k o := by
  intro a W hx hpre hout hdep d' R' ht
  rw [htab] at ht
  injection ht with ht
  injection ht with e1 e2
  subst e1
  subst e2
  obtain ⟨hw, v, W', hrun, hR, hE⟩ := h a W hx hpre hout hdep
  unfold wpOp
  simp only [hk]
  rw [if_pos hw]
  refine Or.inl ?_
  unfold Oper.wp
  rw [hrun, Oper.upon_value, hd]
  exact ⟨v, rfl, hR, hE⟩
theorem softW_call {k0 : Nat} {Pre : World → Prop} {Rel : World → World → Prop} {P : Program} {ops : Array Oper} {tab : SoftTab} {Q : Exit → Act → World → Prop} {a0 : Act} {w : World} {k : Nat} {o : Oper} (d : Nat) (R : Told) (hk : ops[k]? = some o) (hd : o.dst = some d) (htab : tab[k]? = some (d, R))
    (h : ∀ (a : Act) (W : World), Rel w W → (depB ops k0 k = true → Pre W) → (∀ t, t ∉ tab.map (·.1) → a.tmps.getD t undef = a0.tmps.getD t undef) → (∀ e ∈ o.after.toList, Region.binds .any e = true → ∀ (d : Nat) (R : Told), tab[e.on]? = some (d, R) → R (a.tmps.getD d undef) W ∧ d < a.tmps.size) →
      Region.wanted o (yielded ops a.tmps) = true ∧ ∃ f args, (execOp a.eval o).run P W = .ok (.enter f args) W ∧ Calls P f args W fun e W' => ∃ v, e = .returned v ∧ R v W' ∧ Ext W W') : SoftStepW k0 Pre Rel P ops tab Q a0 w k o := by
  intro a W hx hpre hout hdep d' R' ht
  rw [htab] at ht
  injection ht with ht
  injection ht with e1 e2
  subst e1
  subst e2
  obtain ⟨hw, f, args, hrun, hc⟩ := h a W hx hpre hout hdep
  unfold wpOp
  simp only [hk]
  rw [if_pos hw]
  refine Or.inl ?_
  unfold Oper.wp
  rw [hrun, Oper.upon_enter]
  refine hc.mono ?_
  rintro e W' ⟨v, rfl, hR, hE⟩
  rw [hd]
  exact ⟨v, rfl, hR, hE⟩

theorem softC_none {Rel : World → World → Prop} {Pre Post : World → Prop} {P : Program} {ops : Array Oper} {tab : SoftTab} {Q : Exit → Act → World → Prop} {a0 : Act} {w : World} {k : Nat} {o : Oper} (d : Nat) (hk : ops[k]? = some o) (hd : o.dst = none) (htab : tab[k]? = some (d, fun _ _ => True))
    (h : ∀ (a : Act) (W : World), Rel w W → Pre W → (∀ t, t ∉ tab.map (·.1) → a.tmps.getD t undef = a0.tmps.getD t undef) → (∀ e ∈ o.after.toList, Region.binds .any e = true → ∀ (d : Nat) (R : Told), tab[e.on]? = some (d, R) → R (a.tmps.getD d undef) W ∧ d < a.tmps.size) →
      Region.wanted o (yielded ops a.tmps) = true ∧ ∃ W', (execOp a.eval o).run P W = .ok .skip W' ∧ Rel W W' ∧ Post W') : SoftStepC Rel Pre Post P ops tab Q a0 w k o := by
  intro a W hx hpre hout hdep d' R' ht
  rw [htab] at ht
  injection ht with ht
  injection ht with e1 e2
  subst e1
  subst e2
  obtain ⟨hw, W', hrun, hE, hP⟩ := h a W hx hpre hout hdep
  unfold wpOp
  simp only [hk]
  rw [if_pos hw]
  refine Or.inl ?_
  unfold Oper.wp
  rw [hrun]
  show ∃ v, a.put o.dst undef = a.put (some d) v ∧ _
  rw [hd]
  rcases Nat.lt_or_ge d a.tmps.size with hs | hs
  · exact ⟨_, (Act.put_self a d hs).symm, trivial, hE, hP⟩
  · refine ⟨undef, ?_, trivial, hE, hP⟩
    cases a with
    | mk t df => simp only [Act.put]; congr 1; exact (Array.setIfInBounds_eq_of_size_le hs).symm

theorem wp_soft_frameW (Rel : World → World → Prop) (k0 : Nat) (Pre Post : World → Prop) {P : Program} {l : List Oper} (n : Nat) (tab : SoftTab) {Q : Exit → Act → World → Prop} {a : Act} {w : World} {id : Nat} (hm : P.follows .mixedOrders = true)
    (hform : softForm n l = true) (htrans : ∀ a b c, Rel a b → Rel b c → Rel a c) (hsub : ∀ a b, Ext a b → Rel a b) (hpre : ∀ a b, Ext a b → Pre a → Pre b) (hpost : ∀ a b, Ext a b → Post a → Post b) (hk0 : k0 < n) (hw : Pre w)
    (hlen : tab.length = n) (hnd : (tab.map (·.1)).Nodup) (hsz : ∀ d ∈ tab.map (·.1), d < a.tmps.size) (hmono : SoftMonoR Rel tab)
    (hend : ∀ (W : World) (vs : List Value), ToldAll tab vs W → Rel w W → Post W → wpList P l.toArray Q (l.drop n) ⟨putAll a.tmps ((tab.map (·.1)).zip vs), a.defers⟩ W)
    (hstep : SoftAllW Rel k0 Pre Post P l.toArray tab Q a w (l.take n) 0) : (Code.region id l.toArray true).wp P Q a w := by
  refine wp_soft_tailW Rel k0 Pre Post n tab hm hform htrans hsub hpre hpost hk0 hw hlen hnd hsz hmono (fun a' W hS => ?_) hstep
  have h1 := hend W (tab.map fun p => a'.tmps.getD p.1 undef) (toldAll_of (f := fun d => a'.tmps.getD d undef) tab fun k d R hk => hS.told k d R hk (by
    have hk' : k < n := by have := (List.getElem?_eq_some_iff.1 hk).1; omega
    simp [doneTo, hk', List.getElem?_append])) hS.rel (hS.phase.1 (by simp [doneTo, hk0, List.getElem?_append]))
  rw [zip_told (fun d => a'.tmps.getD d undef), ← putAll_of a'.tmps _ a.tmps hS.size hS.out, ← hS.defers] at h1
  exact h1

end Go.Proofs.Ytmpomammieenjaa
