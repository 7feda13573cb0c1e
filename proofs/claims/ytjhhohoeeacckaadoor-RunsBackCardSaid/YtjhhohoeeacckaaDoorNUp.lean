/-
  Contract of stage 5's head (up); no claim stands here.
-/
import Derived.Test.YtjhhohoeeacckaaDoorNMay
import Derived.Test.YtjhhohoeeacckaaDoorNOf
import Derived.Test.YtjhhohoeeacckaaDoorNAdd
namespace Go.Proofs.YtjhhohoeeacckaaDoor
open Go.ChangeShapes Go.WideShapes Go.ChangeAt Go.RowKit Go.Sort
set_option linter.unusedVariables false
attribute [local go_sem] World.cell?_alloc_some

def rAB : Rn := ⟨1, 0, 0, 0, 0, 0, [97, 98]⟩
def rA : Rn := ⟨0, 0, 0, 0, 0, 0, [97]⟩
def iAB : List It := [⟨1, 0, 0, 0, 0, 0, 97⟩, ⟨1, 1, 1, 0, 0, 0, 98⟩]
theorem may_AB : mayN rAB = true := by decide +kernel
theorem may_A : mayN rA = false := by decide +kernel
theorem items_AB : itemsOf [rAB] = iAB := by rfl
theorem wf_AB : wfIs iAB := by
  intro x hx
  simp only [iAB, List.mem_cons, List.not_mem_nil, or_false] at hx
  rcases hx with rfl | rfl <;> (unfold wfI; decide)
theorem runs_AB : (runsOf iAB).length = 1 := by rfl
/-- what the slots hold -/
def rupTab (p g c : Nat) : SoftTab := [(11, fun z9 W => z9 = .slice (some ⟨p, 0, none⟩) 1 1),
  (12, fun z9 W => z9 = .pointer (some ⟨p, 0, none⟩)),
  (13, fun z9 W => z9 = rnv rAB),
  (14, fun z9 W => z9 = .bool true),
  (15, fun z9 W => z9 = .bool true),
  (16, fun z9 W => z9 = .slice (some ⟨g, 0, none⟩) 2 c),
  (17, fun z9 W => z9 = .pointer (some ⟨g, 7, none⟩)),
  (18, fun z9 W => z9 = .pointer (some ⟨g, 9, none⟩)),
  (19, fun z9 W => z9 = idv 1 0),
  (20, fun z9 W => z9 = .slice (some ⟨g, 0, none⟩) 2 c),
  (21, fun z9 W => z9 = .pointer (some ⟨g, 0, none⟩)),
  (22, fun z9 W => z9 = .pointer (some ⟨g, 0, none⟩)),
  (23, fun z9 W => z9 = idv 1 0),
  (24, fun z9 W => z9 = .bool true),
  (25, fun z9 W => z9 = .bool true),
  (26, fun z9 W => z9 = .bool true),
  (27, fun z9 W => z9 = .slice (some ⟨g, 0, none⟩) 2 c),
  (28, fun z9 W => ∃ A cc, z9 = .slice A 1 cc),
  (29, fun z9 W => z9 = Vi 1),
  (30, fun z9 W => z9 = .bool true),
  (31, fun z9 W => z9 = .bool true),
  (32, fun z9 W => z9 = .bool true),
  (33, fun z9 W => z9 = rnv rA),
  (34, fun z9 W => z9 = .bool false),
  (35, fun z9 W => z9 = .bool true),
  (36, fun z9 W => z9 = .bool true)]
theorem rupTab_mono (p g c : Nat) (Rel : World → World → Prop) (hR : ∀ W W', Rel W W' → Ext W W') : SoftMonoR Rel (rupTab p g c) := by
  intro p hp v W W' h hx
  simp only [rupTab, List.mem_cons, List.not_mem_nil, or_false] at hp
  rcases hp with rfl | rfl | rfl | rfl | rfl | rfl | rfl | rfl | rfl | rfl | rfl | rfl | rfl | rfl | rfl | rfl | rfl | rfl | rfl | rfl | rfl | rfl | rfl | rfl | rfl | rfl
  all_goals first
    | exact h

set_option maxRecDepth 100000 in
set_option maxHeartbeats 4000000 in
theorem up5_any (w : World) (hT : Tabs w) : Calls Tryd.prog 5 #[] w fun e w' => e = .returned (.bool true) ∧ Ext w w' := by
  have hcall := Lib.hid (fun (W : World) (hv : RnS W (some ⟨w.heap.size, 0, none⟩) [rAB]) => items_any (some ⟨w.heap.size, 0, none⟩) 1 1 [rAB] W hv rfl (by intro r hr; rw [List.mem_singleton] at hr; subst hr; exact ⟨may_AB, by unfold wfR rAB; decide⟩) (by omega) (by rw [items_AB]; decide))
  rw [items_AB] at hcall
  go_enter Tryd.func5, Tryd.ntmps5
  go_wp2_with fail
  refine (hcall.out _ (RnS.new w rAB)).mono ?_
  rintro e w1 ⟨v, rfl, ho, x1⟩
  have c0 := x1.keep (p := ⟨w.heap.size, 0, none⟩) (v := Vu 1) (by simp [go_sem, rAB])
  have c1 := x1.keep (p := ⟨w.heap.size, 1, none⟩) (v := Vu 0) (by simp [go_sem, rAB])
  have c2 := x1.keep (p := ⟨w.heap.size, 2, none⟩) (v := Vu 0) (by simp [go_sem, rAB])
  have c3 := x1.keep (p := ⟨w.heap.size, 3, none⟩) (v := Vu 0) (by simp [go_sem, rAB])
  have c4 := x1.keep (p := ⟨w.heap.size, 4, none⟩) (v := Vu 0) (by simp [go_sem, rAB])
  have c5 := x1.keep (p := ⟨w.heap.size, 5, none⟩) (v := Vu 0) (by simp [go_sem, rAB])
  have c6 := x1.keep (p := ⟨w.heap.size, 6, none⟩) (v := .string ⟨#[97, 98]⟩) (by simp [go_sem, rAB])
  obtain ⟨_, ⟨_, h9⟩ | ⟨g, c, cur, rfl, hg, hcur, _⟩⟩ := id ho
  · simp [iAB] at h9
  obtain ⟨A', c', e, hc, hI⟩ := OwnI.open ho
  injection e with e1 e2 e3
  subst e1
  subst e3
  have hc : 2 ≤ c := hc
  obtain ⟨b, o, x, e4, hx0, hC0⟩ := ItS.at hI (k := 0) (by decide)
  injection e4 with e4
  injection e4 with e5 e6
  subst e5
  subst e6
  obtain ⟨b, o, y, e4, hy0, hC1⟩ := ItS.at hI (k := 1) (by decide)
  injection e4 with e4
  injection e4 with e5 e6
  subst e5
  subst e6
  obtain rfl : x = ⟨1, 0, 0, 0, 0, 0, 97⟩ := by simpa [iAB] using hx0.symm
  obtain rfl : y = ⟨1, 1, 1, 0, 0, 0, 98⟩ := by simpa [iAB] using hy0.symm
  have d0 : w1.cell? ⟨g, 0, none⟩ = some (Vu 1) := hC0.c0
  have d1 : w1.cell? ⟨g, 1, none⟩ = some (Vu 0) := hC0.c1
  have d9 : w1.cell? ⟨g, 9, none⟩ = some (Vu 1) := hC1.c2
  have d10 : w1.cell? ⟨g, 10, none⟩ = some (Vu 0) := hC1.c3
  have h0 : Ext w w1 := ((Ext.refl w).alloc _).trans x1
  clear hcall hx0 hy0 hC0 hC1 ho hcur x1 hg
  generalize w.heap.size = p at *
  go_wp2_with fail
  refine wp_soft_frame Ext 26 (rupTab p g c) (by kernel_rfl) (by kernel_rfl) (fun _ _ _ => Ext.trans) ((Ext.refl _).drew) rfl (by show List.Nodup [11, 12, 13, 14, 15, 16, 17, 18, 19, 20, 21, 22, 23, 24, 25, 26, 27, 28, 29, 30, 31, 32, 33, 34, 35, 36]; decide) (by show ∀ d ∈ [11, 12, 13, 14, 15, 16, 17, 18, 19, 20, 21, 22, 23, 24, 25, 26, 27, 28, 29, 30, 31, 32, 33, 34, 35, 36], d < 37; decide) (rupTab_mono p g c _ (fun _ _ h => h)) ?_ ⟨?_, ?_, ?_, ?_, ?_, ?_, ?_, ?_, ?_, ?_, ?_, ?_, ?_, ?_, ?_, ?_, ?_, ?_, ?_, ?_, ?_, ?_, ?_, ?_, ?_, ?_, trivial⟩
  · intro W vs hT hR
    match vs, hT with
    | [v0, v1, v2, v3, v4, v5, v6, v7, v8, v9, v10, v11, v12, v13, v14, v15, v16, v17, v18, v19, v20, v21, v22, v23, v24, v25], ⟨e0, e1, e2, e3, e4, e5, e6, e7, e8, e9, e10, e11, e12, e13, e14, e15, e16, e17, e18, e19, e20, e21, e22, e23, e24, e25, _⟩ =>
      simp only [rupTab, List.map_cons, List.map_nil, List.zip_cons_cons, List.zip_nil_left, putAll, List.setIfInBounds_toArray, List.set_cons_zero, List.set_cons_succ, List.drop_succ_cons, List.drop_zero]
      simp only at e0 e1 e2 e3 e4 e5 e6 e7 e8 e9 e10 e11 e12 e13 e14 e15 e16 e18 e19 e20 e21 e22 e23 e24 e25
      obtain ⟨A, cc, e17⟩ := e17
      rw [e0, e1, e2, e3, e4, e5, e6, e7, e8, e9, e10, e11, e12, e13, e14, e15, e16, e17, e18, e19, e20, e21, e22, e23, e24, e25]
      clear e0 e1 e2 e3 e4 e5 e6 e7 e8 e9 e10 e11 e12 e13 e14 e15 e16 e17 e18 e19 e20 e21 e22 e23 e24 e25 v0 v1 v2 v3 v4 v5 v6 v7 v8 v9 v10 v11 v12 v13 v14 v15 v16 v17 v18 v19 v20 v21 v22 v23 v24 v25
      go_wp2
      go_ret
      exact ⟨rfl, h0.trans hR⟩
  · refine softR_val 11 _ (by kernel_rfl) rfl rfl ?_
    intro a W hx hout hdep
    have ev1 : a.tmps[1]?.getD undef = .slice (some ⟨p, 0, none⟩) 1 1 := by rw [← Array.getD_eq_getD_getElem?]; exact hout 1 (by show 1 ∉ [11, 12, 13, 14, 15, 16, 17, 18, 19, 20, 21, 22, 23, 24, 25, 26, 27, 28, 29, 30, 31, 32, 33, 34, 35, 36]; decide)
    refine ⟨rfl, .slice (some ⟨p, 0, none⟩) 1 1, W, ?_, rfl, Ext.refl _⟩
    simp [ev1, execOp, go_sem]
  · refine softR_val 12 _ (by kernel_rfl) rfl rfl ?_
    intro a W hx hout hdep
    have ev11 : a.tmps[11]?.getD undef = .slice (some ⟨p, 0, none⟩) 1 1 := by rw [← Array.getD_eq_getD_getElem?]; exact (hdep ⟨0, .data⟩ (by simp) rfl 11 _ rfl).1
    refine ⟨rfl, .pointer (some ⟨p, 0, none⟩), W, ?_, rfl, Ext.refl _⟩
    simp [ev11, execOp, go_sem]
  · refine softR_val 13 _ (by kernel_rfl) rfl rfl ?_
    intro a W hx hout hdep
    have ev12 : a.tmps[12]?.getD undef = .pointer (some ⟨p, 0, none⟩) := by rw [← Array.getD_eq_getD_getElem?]; exact (hdep ⟨1, .data⟩ (by simp) rfl 12 _ rfl).1
    have q0 := hx.keep c0
    have q1 := hx.keep c1
    have q2 := hx.keep c2
    have q3 := hx.keep c3
    have q4 := hx.keep c4
    have q5 := hx.keep c5
    have q6 := hx.keep c6
    refine ⟨rfl, rnv rAB, W, ?_, rfl, Ext.refl _⟩
    simp [ev12, rAB, q0, q1, q2, q3, q4, q5, q6, execOp, go_sem]
  · refine softR_call 14 _ (by kernel_rfl) rfl rfl ?_
    intro a W hx hout hdep
    have ev13 : a.tmps[13]?.getD undef = rnv rAB := by rw [← Array.getD_eq_getD_getElem?]; exact (hdep ⟨2, .data⟩ (by simp) rfl 13 _ rfl).1
    refine ⟨rfl, 7, #[rnv rAB], ?_, ?_⟩
    · simp [ev13, execOp, go_sem]
    · exact (may_any rAB W (hT.ext (h0.trans hx)) (by decide) (by decide) (by decide)).mono (by rintro e W1 ⟨rfl, h⟩; exact ⟨_, rfl, by rw [may_AB], h⟩)
  · refine softR_val 15 _ (by kernel_rfl) rfl rfl ?_
    intro a W hx hout hdep
    have ev14 : a.tmps[14]?.getD undef = .bool true := by rw [← Array.getD_eq_getD_getElem?]; exact (hdep ⟨3, .data⟩ (by simp) rfl 14 _ rfl).1
    refine ⟨rfl, .bool true, W, ?_, rfl, Ext.refl _⟩
    simp [ev14, execOp, go_sem]
  · refine softR_val 16 _ (by kernel_rfl) rfl rfl ?_
    intro a W hx hout hdep
    have ev2 : a.tmps[2]?.getD undef = .slice (some ⟨g, 0, none⟩) 2 c := by rw [← Array.getD_eq_getD_getElem?]; exact hout 2 (by show 2 ∉ [11, 12, 13, 14, 15, 16, 17, 18, 19, 20, 21, 22, 23, 24, 25, 26, 27, 28, 29, 30, 31, 32, 33, 34, 35, 36]; decide)
    refine ⟨soft_wanted rfl (by kernel_rfl) (hdep ⟨4, .guard⟩ (by simp) rfl 15 _ rfl), .slice (some ⟨g, 0, none⟩) 2 c, W, ?_, rfl, Ext.refl _⟩
    simp [ev2, execOp, go_sem]
  · refine softR_val 17 _ (by kernel_rfl) rfl rfl ?_
    intro a W hx hout hdep
    have ev16 : a.tmps[16]?.getD undef = .slice (some ⟨g, 0, none⟩) 2 c := by rw [← Array.getD_eq_getD_getElem?]; exact (hdep ⟨5, .data⟩ (by simp) rfl 16 _ rfl).1
    refine ⟨soft_wanted rfl (by kernel_rfl) (hdep ⟨4, .guard⟩ (by simp) rfl 15 _ rfl), .pointer (some ⟨g, 7, none⟩), W, ?_, rfl, Ext.refl _⟩
    simp [ev16, execOp, go_sem]
  · refine softR_val 18 _ (by kernel_rfl) rfl rfl ?_
    intro a W hx hout hdep
    have ev17 : a.tmps[17]?.getD undef = .pointer (some ⟨g, 7, none⟩) := by rw [← Array.getD_eq_getD_getElem?]; exact (hdep ⟨6, .data⟩ (by simp) rfl 17 _ rfl).1
    refine ⟨soft_wanted rfl (by kernel_rfl) (hdep ⟨4, .guard⟩ (by simp) rfl 15 _ rfl), .pointer (some ⟨g, 9, none⟩), W, ?_, rfl, Ext.refl _⟩
    simp [ev17, execOp, go_sem]
  · refine softR_val 19 _ (by kernel_rfl) rfl rfl ?_
    intro a W hx hout hdep
    have ev18 : a.tmps[18]?.getD undef = .pointer (some ⟨g, 9, none⟩) := by rw [← Array.getD_eq_getD_getElem?]; exact (hdep ⟨7, .data⟩ (by simp) rfl 18 _ rfl).1
    have q0 := hx.keep d9
    have q1 := hx.keep d10
    refine ⟨soft_wanted rfl (by kernel_rfl) (hdep ⟨4, .guard⟩ (by simp) rfl 15 _ rfl), idv 1 0, W, ?_, rfl, Ext.refl _⟩
    simp [ev18, q0, q1, execOp, go_sem]
  · refine softR_val 20 _ (by kernel_rfl) rfl rfl ?_
    intro a W hx hout hdep
    have ev2 : a.tmps[2]?.getD undef = .slice (some ⟨g, 0, none⟩) 2 c := by rw [← Array.getD_eq_getD_getElem?]; exact hout 2 (by show 2 ∉ [11, 12, 13, 14, 15, 16, 17, 18, 19, 20, 21, 22, 23, 24, 25, 26, 27, 28, 29, 30, 31, 32, 33, 34, 35, 36]; decide)
    refine ⟨soft_wanted rfl (by kernel_rfl) (hdep ⟨4, .guard⟩ (by simp) rfl 15 _ rfl), .slice (some ⟨g, 0, none⟩) 2 c, W, ?_, rfl, Ext.refl _⟩
    simp [ev2, execOp, go_sem]
  · refine softR_val 21 _ (by kernel_rfl) rfl rfl ?_
    intro a W hx hout hdep
    have ev20 : a.tmps[20]?.getD undef = .slice (some ⟨g, 0, none⟩) 2 c := by rw [← Array.getD_eq_getD_getElem?]; exact (hdep ⟨9, .data⟩ (by simp) rfl 20 _ rfl).1
    refine ⟨soft_wanted rfl (by kernel_rfl) (hdep ⟨4, .guard⟩ (by simp) rfl 15 _ rfl), .pointer (some ⟨g, 0, none⟩), W, ?_, rfl, Ext.refl _⟩
    simp [ev20, execOp, go_sem]
  · refine softR_val 22 _ (by kernel_rfl) rfl rfl ?_
    intro a W hx hout hdep
    have ev21 : a.tmps[21]?.getD undef = .pointer (some ⟨g, 0, none⟩) := by rw [← Array.getD_eq_getD_getElem?]; exact (hdep ⟨10, .data⟩ (by simp) rfl 21 _ rfl).1
    refine ⟨soft_wanted rfl (by kernel_rfl) (hdep ⟨4, .guard⟩ (by simp) rfl 15 _ rfl), .pointer (some ⟨g, 0, none⟩), W, ?_, rfl, Ext.refl _⟩
    simp [ev21, execOp, go_sem]
  · refine softR_val 23 _ (by kernel_rfl) rfl rfl ?_
    intro a W hx hout hdep
    have ev22 : a.tmps[22]?.getD undef = .pointer (some ⟨g, 0, none⟩) := by rw [← Array.getD_eq_getD_getElem?]; exact (hdep ⟨11, .data⟩ (by simp) rfl 22 _ rfl).1
    have q0 := hx.keep d0
    have q1 := hx.keep d1
    refine ⟨soft_wanted rfl (by kernel_rfl) (hdep ⟨4, .guard⟩ (by simp) rfl 15 _ rfl), idv 1 0, W, ?_, rfl, Ext.refl _⟩
    simp [ev22, q0, q1, execOp, go_sem]
  · refine softR_val 24 _ (by kernel_rfl) rfl rfl ?_
    intro a W hx hout hdep
    have ev19 : a.tmps[19]?.getD undef = idv 1 0 := by rw [← Array.getD_eq_getD_getElem?]; exact (hdep ⟨8, .data⟩ (by simp) rfl 19 _ rfl).1
    have ev23 : a.tmps[23]?.getD undef = idv 1 0 := by rw [← Array.getD_eq_getD_getElem?]; exact (hdep ⟨12, .data⟩ (by simp) rfl 23 _ rfl).1
    refine ⟨soft_wanted rfl (by kernel_rfl) (hdep ⟨4, .guard⟩ (by simp) rfl 15 _ rfl), .bool true, W, ?_, rfl, Ext.refl _⟩
    simp [ev19, ev23, execOp, go_sem]
  · refine softR_val 25 _ (by kernel_rfl) rfl rfl ?_
    intro a W hx hout hdep
    have ev15 : a.tmps[15]?.getD undef = .bool true := by rw [← Array.getD_eq_getD_getElem?]; exact (hdep ⟨4, .data⟩ (by simp) rfl 15 _ rfl).1
    have ev24 : a.tmps[24]?.getD undef = .bool true := by rw [← Array.getD_eq_getD_getElem?]; exact (hdep ⟨13, .data⟩ (by simp) rfl 24 _ rfl).1
    refine ⟨rfl, .bool true, W, ?_, rfl, Ext.refl _⟩
    simp [ev15, ev24, execOp, go_sem]
  · refine softR_val 26 _ (by kernel_rfl) rfl rfl ?_
    intro a W hx hout hdep
    have ev25 : a.tmps[25]?.getD undef = .bool true := by rw [← Array.getD_eq_getD_getElem?]; exact (hdep ⟨14, .data⟩ (by simp) rfl 25 _ rfl).1
    refine ⟨rfl, .bool true, W, ?_, rfl, Ext.refl _⟩
    simp [ev25, execOp, go_sem]
  · refine softR_val 27 _ (by kernel_rfl) rfl rfl ?_
    intro a W hx hout hdep
    have ev2 : a.tmps[2]?.getD undef = .slice (some ⟨g, 0, none⟩) 2 c := by rw [← Array.getD_eq_getD_getElem?]; exact hout 2 (by show 2 ∉ [11, 12, 13, 14, 15, 16, 17, 18, 19, 20, 21, 22, 23, 24, 25, 26, 27, 28, 29, 30, 31, 32, 33, 34, 35, 36]; decide)
    refine ⟨soft_wanted rfl (by kernel_rfl) (hdep ⟨15, .guard⟩ (by simp) rfl 26 _ rfl), .slice (some ⟨g, 0, none⟩) 2 c, W, ?_, rfl, Ext.refl _⟩
    simp [ev2, execOp, go_sem]
  · refine softR_call 28 _ (by kernel_rfl) rfl rfl ?_
    intro a W hx hout hdep
    have ev27 : a.tmps[27]?.getD undef = .slice (some ⟨g, 0, none⟩) 2 c := by rw [← Array.getD_eq_getD_getElem?]; exact (hdep ⟨16, .data⟩ (by simp) rfl 27 _ rfl).1
    refine ⟨soft_wanted rfl (by kernel_rfl) (hdep ⟨15, .guard⟩ (by simp) rfl 26 _ rfl), 13, #[.slice (some ⟨g, 0, none⟩) 2 c], ?_, ?_⟩
    · simp [ev27, execOp, go_sem]
    · exact (of_any (some ⟨g, 0, none⟩) 2 c iAB W (hI.ext hx) rfl hc wf_AB (by omega)).mono (by rintro e W1 ⟨v, rfl, ho, h⟩; obtain ⟨A, cc, rfl, _, _⟩ := OwnR.open ho; exact ⟨_, rfl, ⟨A, cc, rfl⟩, h⟩)
  · refine softR_val 29 _ (by kernel_rfl) rfl rfl ?_
    intro a W hx hout hdep
    have tl28 := (hdep ⟨17, .data⟩ (by simp) rfl 28 _ rfl).1
    obtain ⟨A, cc, eq⟩ := tl28
    rw [Array.getD_eq_getD_getElem?] at eq
    refine ⟨soft_wanted rfl (by kernel_rfl) (hdep ⟨15, .guard⟩ (by simp) rfl 26 _ rfl), Vi 1, W, ?_, rfl, Ext.refl _⟩
    simp [eq, execOp, go_sem]
  · refine softR_val 30 _ (by kernel_rfl) rfl rfl ?_
    intro a W hx hout hdep
    have ev29 : a.tmps[29]?.getD undef = Vi 1 := by rw [← Array.getD_eq_getD_getElem?]; exact (hdep ⟨18, .data⟩ (by simp) rfl 29 _ rfl).1
    refine ⟨soft_wanted rfl (by kernel_rfl) (hdep ⟨15, .guard⟩ (by simp) rfl 26 _ rfl), .bool true, W, ?_, rfl, Ext.refl _⟩
    simp [ev29, execOp, go_sem]
  · refine softR_val 31 _ (by kernel_rfl) rfl rfl ?_
    intro a W hx hout hdep
    have ev26 : a.tmps[26]?.getD undef = .bool true := by rw [← Array.getD_eq_getD_getElem?]; exact (hdep ⟨15, .data⟩ (by simp) rfl 26 _ rfl).1
    have ev30 : a.tmps[30]?.getD undef = .bool true := by rw [← Array.getD_eq_getD_getElem?]; exact (hdep ⟨19, .data⟩ (by simp) rfl 30 _ rfl).1
    refine ⟨rfl, .bool true, W, ?_, rfl, Ext.refl _⟩
    simp [ev26, ev30, execOp, go_sem]
  · refine softR_val 32 _ (by kernel_rfl) rfl rfl ?_
    intro a W hx hout hdep
    have ev31 : a.tmps[31]?.getD undef = .bool true := by rw [← Array.getD_eq_getD_getElem?]; exact (hdep ⟨20, .data⟩ (by simp) rfl 31 _ rfl).1
    refine ⟨rfl, .bool true, W, ?_, rfl, Ext.refl _⟩
    simp [ev31, execOp, go_sem]
  · refine softR_val 33 _ (by kernel_rfl) rfl rfl ?_
    intro a W hx hout hdep
    refine ⟨soft_wanted rfl (by kernel_rfl) (hdep ⟨21, .guard⟩ (by simp) rfl 32 _ rfl), rnv rA, W, ?_, rfl, Ext.refl _⟩
    simp [rA, execOp, go_sem]
  · refine softR_call 34 _ (by kernel_rfl) rfl rfl ?_
    intro a W hx hout hdep
    have ev33 : a.tmps[33]?.getD undef = rnv rA := by rw [← Array.getD_eq_getD_getElem?]; exact (hdep ⟨22, .data⟩ (by simp) rfl 33 _ rfl).1
    refine ⟨soft_wanted rfl (by kernel_rfl) (hdep ⟨21, .guard⟩ (by simp) rfl 32 _ rfl), 7, #[rnv rA], ?_, ?_⟩
    · simp [ev33, execOp, go_sem]
    · exact (may_any rA W (hT.ext (h0.trans hx)) (by decide) (by decide) (by decide)).mono (by rintro e W1 ⟨rfl, h⟩; exact ⟨_, rfl, by rw [may_A], h⟩)
  · refine softR_val 35 _ (by kernel_rfl) rfl rfl ?_
    intro a W hx hout hdep
    have ev34 : a.tmps[34]?.getD undef = .bool false := by rw [← Array.getD_eq_getD_getElem?]; exact (hdep ⟨23, .data⟩ (by simp) rfl 34 _ rfl).1
    refine ⟨soft_wanted rfl (by kernel_rfl) (hdep ⟨21, .guard⟩ (by simp) rfl 32 _ rfl), .bool true, W, ?_, rfl, Ext.refl _⟩
    simp [ev34, execOp, go_sem]
  · refine softR_val 36 _ (by kernel_rfl) rfl rfl ?_
    intro a W hx hout hdep
    have ev32 : a.tmps[32]?.getD undef = .bool true := by rw [← Array.getD_eq_getD_getElem?]; exact (hdep ⟨21, .data⟩ (by simp) rfl 32 _ rfl).1
    have ev35 : a.tmps[35]?.getD undef = .bool true := by rw [← Array.getD_eq_getD_getElem?]; exact (hdep ⟨24, .data⟩ (by simp) rfl 35 _ rfl).1
    refine ⟨rfl, .bool true, W, ?_, rfl, Ext.refl _⟩
    simp [ev32, ev35, execOp, go_sem]

end Go.Proofs.YtjhhohoeeacckaaDoor
