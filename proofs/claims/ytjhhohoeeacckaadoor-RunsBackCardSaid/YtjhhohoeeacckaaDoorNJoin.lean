/-
  Contract of runs.join; no claim stands here.
-/
import Derived.Test.YtjhhohoeeacckaaDoorNTog
import Derived.Test.YtjhhohoeeacckaaDoorSoft2
import Derived.Test.YtjhhohoeeacckaaDoorLayWr
namespace Go.Proofs.YtjhhohoeeacckaaDoor
open Go.ChangeShapes Go.WideShapes Go.ChangeAt Go.RowKit Go.Sort
set_option linter.unusedVariables false
attribute [local go_sem] World.cell?_alloc_some

theorem Bld.alloc {B b : Nat} {l : List UInt8} {w : World} (h : Bld B b l w) (o : Obj) : Bld B b l (w.alloc o) := Lib.IsBuilderF.alloc h o
theorem Bld.new (w : World) : Bld w.heap.size w.heap.size [] (w.alloc (.cells #[.pointer none, .slice none 0 0] 67)) := Lib.IsBuilderF.of (Lib.fresh_isBuilder 67 5 w)
/-- how the world goes on in join's last statement -/
def JRel (p : Nat) (L : List UInt8) (W W' : World) : Prop := Below p W W' ∧ (Bld p p L W → Bld p p L W')
theorem JRel.refl (p : Nat) (L : List UInt8) (W : World) : JRel p L W W := ⟨Below.refl _ _, id⟩
theorem JRel.trans {p : Nat} {L : List UInt8} (a b c : World) (h : JRel p L a b) (k : JRel p L b c) : JRel p L a c := ⟨h.1.trans k.1, fun x => k.2 (h.2 x)⟩
/-- what the slots of join's last statement hold -/
def joinTab (b o n cap : Nat) (x : It) (L : List UInt8) : SoftTab := [(16, fun z9 W => z9 = .slice (some ⟨b, o, none⟩) n cap),
  (17, fun z9 W => z9 = .pointer (some ⟨b, o, none⟩)),
  (18, fun z9 W => z9 = .pointer (some ⟨b, o, none⟩)),
  (19, fun z9 W => z9 = idv x.c x.k),
  (20, fun z9 W => z9 = .slice (some ⟨b, o, none⟩) n cap),
  (21, fun z9 W => z9 = .pointer (some ⟨b, o, none⟩)),
  (22, fun z9 W => z9 = .pointer (some ⟨b, o + 2, none⟩)),
  (23, fun z9 W => z9 = idv x.lc x.lk),
  (24, fun z9 W => z9 = .slice (some ⟨b, o, none⟩) n cap),
  (25, fun z9 W => z9 = .pointer (some ⟨b, o, none⟩)),
  (26, fun z9 W => z9 = .pointer (some ⟨b, o + 4, none⟩)),
  (27, fun z9 W => z9 = idv x.rc x.rk),
  (28, fun z9 W => z9 = .string ⟨L.toArray⟩),
  (29, fun z9 W => z9 = rnv ⟨x.c, x.k, x.lc, x.lk, x.rc, x.rk, L⟩)]
theorem joinTab_mono (b o n cap : Nat) (x : It) (L : List UInt8) (Rel : World → World → Prop) : SoftMonoR Rel (joinTab b o n cap x L) := by
  intro p hp v W W' h hx
  simp only [joinTab, List.mem_cons, List.not_mem_nil, or_false] at hp
  rcases hp with rfl | rfl | rfl | rfl | rfl | rfl | rfl | rfl | rfl | rfl | rfl | rfl | rfl | rfl
  all_goals exact h

theorem enc_take {l : List It} {k : Nat} {x : It} (h : l[k]? = some x) : encAll (l.take (k + 1)) = encAll (l.take k) ++ Lib.encodeRune x.ch := by
  rw [List.take_add_one, h, encAll_append]
  simp [encAll]
theorem join_head {l : List It} {x : It} (h : l[0]? = some x) : joinR l = ⟨x.c, x.k, x.lc, x.lk, x.rc, x.rk, encAll l⟩ := by
  cases l with
  | nil => cases h
  | cons y l =>
    obtain rfl : y = x := by simpa using h
    rfl

set_option maxRecDepth 100000 in
set_option maxHeartbeats 4000000 in
theorem join_any (A : Option Addr) (n cap : Nat) (l : List It) (w : World) (hv : ItS w A l) (hn : l.length = n) (h0 : 0 < n) (hw : wfIs l) (hb : n ≤ 10000) :
    Calls Tryd.prog 23 #[.slice A n cap] w fun e w' => e = .returned (rnv (joinR l)) ∧ Ext w w' := by
  replace hn := Lib.hid hn
  replace hv := Lib.hid hv
  replace hw := Lib.hid hw
  go_enter Tryd.func23, Tryd.ntmps23
  go_wp2
  have x0 : Ext w (w.alloc (.cells #[.int .u32 0, .int .u32 0, .int .u32 0, .int .u32 0, .int .u32 0, .int .u32 0, .string ⟨#[]⟩] 29)) := (Ext.refl _).alloc _
  have hz : (w.alloc (.cells #[.int .u32 0, .int .u32 0, .int .u32 0, .int .u32 0, .int .u32 0, .int .u32 0, .string ⟨#[]⟩] 29)).heap[w.heap.size]? = some (.cells #[.int .u32 0, .int .u32 0, .int .u32 0, .int .u32 0, .int .u32 0, .int .u32 0, .string ⟨#[]⟩] 29 (0, 0)) := heap_alloc_new w _
  have hp1 : (w.alloc (.cells #[.int .u32 0, .int .u32 0, .int .u32 0, .int .u32 0, .int .u32 0, .int .u32 0, .string ⟨#[]⟩] 29)).heap.size = w.heap.size + 1 := by simp
  generalize w.alloc (.cells #[.int .u32 0, .int .u32 0, .int .u32 0, .int .u32 0, .int .u32 0, .int .u32 0, .string ⟨#[]⟩] 29) = W0 at *
  rw [← hp1]
  replace hp1 := Lib.hid hp1
  replace hz := Lib.hid hz
  go_loopw [8] (fun i W => ∃ (k : Nat), k ≤ n ∧ i = Vi k ∧ Hid (Bld W0.heap.size W0.heap.size (encAll (l.take k)) W) ∧ Hid (Below W0.heap.size W0 W)) (fun i _ => n - (intOf i).toNat)
  case atStart => exact ⟨0, Nat.zero_le _, rfl, Lib.hid (Bld.new W0), Lib.hid ((Below.refl _ _).alloc (Nat.le_refl _) _)⟩
  case round =>
    obtain ⟨k, hk, rfl, hB, hx⟩ := hrel
    have hpw : W0.heap.size ≤ wr.heap.size := hx.out.size
    by_cases hlt : k < n
    · obtain ⟨b, o, x, rfl, hp, d⟩ := hv.out.at (k := k) (by rw [hn.out]; exact hlt)
      have hwf := hw.out.at hp
      obtain ⟨c0, c1, c2, c3, c4, c5, c6⟩ := (d.ext x0).ext (show Ext W0 wr from hx.out)
      have he := Lib.hid (enc_take hp)
      have hl4 := encAll_len (l.take k)
      rw [List.length_take] at hl4
      have hcall := Lib.hid (fun (o : Obj) => writeRune_any W0.heap.size W0.heap.size (encAll (l.take k)) x.ch (by have := hwf; unfold wfI at this; omega) (by have := hwf; unfold wfI at this; omega) (wr.alloc o) (hB.out.alloc o) (by omega) (by simp; omega))
      clear hp d hwf hl4
      go_wp2_with fail
      refine (hcall.out _).mono ?_
      rintro e w1 ⟨rfl, h2, h3⟩
      replace h2 := Lib.hid h2
      have hx1 := Lib.hid (Below.trans (Below.alloc hx.out hpw _) h3)
      clear h3
      go_wp2
      go_roundw
      case rel => exact ⟨k + 1, by omega, by go_num, Lib.hid (by rw [he.out]; exact h2.out), hx1⟩
      case measure => simp [intOf]; omega
    · obtain rfl : k = n := by omega
      obtain ⟨b, o, x, rfl, hp, d⟩ := hv.out.at (k := 0) (by rw [hn.out]; exact h0)
      have hj := Lib.hid (join_head hp)
      have hblt : b < W0.heap.size := by have := World.block_lt_of_cell? _ _ (d.ext x0).c0; exact this
      have hc := (d.ext x0).ext (show Ext W0 wr from hx.out)
      rw [show l.take k = l from List.take_of_length_le (by rw [hn.out]; exact Nat.le_refl _)] at hB
      simp only [Nat.zero_mul, Nat.add_zero] at hc
      clear hp d
      generalize hLd : encAll l = L at *
      have hK : ∀ W, Below W0.heap.size wr W → ∀ {j : Nat} {v : Value}, wr.cell? ⟨b, j, none⟩ = some v → W.cell? ⟨b, j, none⟩ = some v := fun W hW j v h => by rw [RowKit.Below.cell (p := ⟨b, j, none⟩) hW hblt]; exact h
      have hlen : ¬ (k = 0) := by omega
      replace hB := hB.out
      have hzr : wr.heap[w.heap.size]? = some (.cells #[.int .u32 0, .int .u32 0, .int .u32 0, .int .u32 0, .int .u32 0, .int .u32 0, .string ⟨#[]⟩] 29 (0, 0)) := by rw [RowKit.Below.block hx.out w.heap.size (by rw [hp1.out]; omega)]; exact hz.out
      generalize hpd : W0.heap.size = p at *
      go_wp2_with fail
      refine wp_soft_frame (JRel p L) 14 (joinTab b o k cap x L) (by kernel_rfl) (by kernel_rfl) JRel.trans ⟨(Below.refl _ _).drew, id⟩ rfl (by show List.Nodup [16, 17, 18, 19, 20, 21, 22, 23, 24, 25, 26, 27, 28, 29]; decide) (by show ∀ d ∈ [16, 17, 18, 19, 20, 21, 22, 23, 24, 25, 26, 27, 28, 29], d < 30; decide) (joinTab_mono b o k cap x L _) ?_ ⟨?_, ?_, ?_, ?_, ?_, ?_, ?_, ?_, ?_, ?_, ?_, ?_, ?_, ?_, trivial⟩
      · intro W vs hT hR
        match vs, hT with
        | [v0, v1, v2, v3, v4, v5, v6, v7, v8, v9, v10, v11, v12, v13], ⟨e0, e1, e2, e3, e4, e5, e6, e7, e8, e9, e10, e11, e12, e13, _⟩ =>
          simp only [joinTab, List.map_cons, List.map_nil, List.zip_cons_cons, List.zip_nil_left, putAll, List.setIfInBounds_toArray, List.set_cons_zero, List.set_cons_succ, List.drop_succ_cons, List.drop_zero]
          simp only at e0 e1 e2 e3 e4 e5 e6 e7 e8 e9 e10 e11 e12 e13
          rw [e0, e1, e2, e3, e4, e5, e6, e7, e8, e9, e10, e11, e12, e13]
          clear e0 e1 e2 e3 e4 e5 e6 e7 e8 e9 e10 e11 e12 e13 v0 v1 v2 v3 v4 v5 v6 v7 v8 v9 v10 v11 v12 v13
          have hzW : W.heap[w.heap.size]? = some (.cells #[.int .u32 0, .int .u32 0, .int .u32 0, .int .u32 0, .int .u32 0, .int .u32 0, .string ⟨#[]⟩] 29 (0, 0)) := by rw [RowKit.Below.block hR.1 w.heap.size (by have := hp1.out; omega)]; exact hzr
          have hE : Ext w W := x0.trans (by have h1 := Below.trans hx.out hR.1; rw [← hpd] at h1; exact h1)
          have hpr : w.heap.size ≤ w.heap.size := Nat.le_refl _
          have z0 := cell_of_row W w.heap.size 0 _ _ _ hzW
          have f0 := frozen_of_row W w.heap.size 0 _ _ hzW
          have z1 := cell_of_row W w.heap.size 1 _ _ _ hzW
          have f1 := frozen_of_row W w.heap.size 1 _ _ hzW
          have z2 := cell_of_row W w.heap.size 2 _ _ _ hzW
          have f2 := frozen_of_row W w.heap.size 2 _ _ hzW
          have z3 := cell_of_row W w.heap.size 3 _ _ _ hzW
          have f3 := frozen_of_row W w.heap.size 3 _ _ hzW
          have z4 := cell_of_row W w.heap.size 4 _ _ _ hzW
          have f4 := frozen_of_row W w.heap.size 4 _ _ hzW
          have z5 := cell_of_row W w.heap.size 5 _ _ _ hzW
          have f5 := frozen_of_row W w.heap.size 5 _ _ hzW
          have z6 := cell_of_row W w.heap.size 6 _ _ _ hzW
          have f6 := frozen_of_row W w.heap.size 6 _ _ hzW
          clear hzW hzr hB hK hc hx hR
          generalize hq : w.heap.size = q at *
          go_wp2
          exact bodyPost_ret (v := rnv ⟨x.c, x.k, x.lc, x.lk, x.rc, x.rk, L⟩) (by simp [results, Tryd.results23, go_sem, z0, z1, z2, z3, z4, z5, z6]) rfl ⟨by rw [hj.out], ((((((hE.setCell (by rw [hq]; exact Nat.le_refl _) _).setCell (by rw [hq]; exact Nat.le_refl _) _).setCell (by rw [hq]; exact Nat.le_refl _) _).setCell (by rw [hq]; exact Nat.le_refl _) _).setCell (by rw [hq]; exact Nat.le_refl _) _).setCell (by rw [hq]; exact Nat.le_refl _) _).setCell (by rw [hq]; exact Nat.le_refl _) _⟩
      · refine softR_val 16 _ (by kernel_rfl) rfl rfl ?_
        intro a W hx hout hdep
        have ev0 : a.tmps[0]?.getD undef = .slice (some ⟨b, o, none⟩) k cap := by rw [← Array.getD_eq_getD_getElem?]; exact hout 0 (by show 0 ∉ [16, 17, 18, 19, 20, 21, 22, 23, 24, 25, 26, 27, 28, 29]; decide)
        refine ⟨rfl, .slice (some ⟨b, o, none⟩) k cap, W, ?_, rfl, JRel.refl _ _ _⟩
        simp [ev0, execOp, go_sem]
      · refine softR_val 17 _ (by kernel_rfl) rfl rfl ?_
        intro a W hx hout hdep
        have ev16 : a.tmps[16]?.getD undef = .slice (some ⟨b, o, none⟩) k cap := by rw [← Array.getD_eq_getD_getElem?]; exact (hdep ⟨0, .data⟩ (by simp) rfl 16 _ rfl).1
        refine ⟨rfl, .pointer (some ⟨b, o, none⟩), W, ?_, rfl, JRel.refl _ _ _⟩
        simp [ev16, hlen, execOp, go_sem]
      · refine softR_val 18 _ (by kernel_rfl) rfl rfl ?_
        intro a W hx hout hdep
        have ev17 : a.tmps[17]?.getD undef = .pointer (some ⟨b, o, none⟩) := by rw [← Array.getD_eq_getD_getElem?]; exact (hdep ⟨1, .data⟩ (by simp) rfl 17 _ rfl).1
        refine ⟨rfl, .pointer (some ⟨b, o, none⟩), W, ?_, rfl, JRel.refl _ _ _⟩
        simp [ev17, execOp, go_sem]
      · refine softR_val 19 _ (by kernel_rfl) rfl rfl ?_
        intro a W hx hout hdep
        have ev18 : a.tmps[18]?.getD undef = .pointer (some ⟨b, o, none⟩) := by rw [← Array.getD_eq_getD_getElem?]; exact (hdep ⟨2, .data⟩ (by simp) rfl 18 _ rfl).1
        have q0 := hK W hx.1 hc.c0
        have q1 := hK W hx.1 hc.c1
        refine ⟨rfl, idv x.c x.k, W, ?_, rfl, JRel.refl _ _ _⟩
        simp [ev18, q0, q1, execOp, go_sem]
      · refine softR_val 20 _ (by kernel_rfl) rfl rfl ?_
        intro a W hx hout hdep
        have ev0 : a.tmps[0]?.getD undef = .slice (some ⟨b, o, none⟩) k cap := by rw [← Array.getD_eq_getD_getElem?]; exact hout 0 (by show 0 ∉ [16, 17, 18, 19, 20, 21, 22, 23, 24, 25, 26, 27, 28, 29]; decide)
        refine ⟨rfl, .slice (some ⟨b, o, none⟩) k cap, W, ?_, rfl, JRel.refl _ _ _⟩
        simp [ev0, execOp, go_sem]
      · refine softR_val 21 _ (by kernel_rfl) rfl rfl ?_
        intro a W hx hout hdep
        have ev20 : a.tmps[20]?.getD undef = .slice (some ⟨b, o, none⟩) k cap := by rw [← Array.getD_eq_getD_getElem?]; exact (hdep ⟨4, .data⟩ (by simp) rfl 20 _ rfl).1
        refine ⟨rfl, .pointer (some ⟨b, o, none⟩), W, ?_, rfl, JRel.refl _ _ _⟩
        simp [ev20, hlen, execOp, go_sem]
      · refine softR_val 22 _ (by kernel_rfl) rfl rfl ?_
        intro a W hx hout hdep
        have ev21 : a.tmps[21]?.getD undef = .pointer (some ⟨b, o, none⟩) := by rw [← Array.getD_eq_getD_getElem?]; exact (hdep ⟨5, .data⟩ (by simp) rfl 21 _ rfl).1
        refine ⟨rfl, .pointer (some ⟨b, o + 2, none⟩), W, ?_, rfl, JRel.refl _ _ _⟩
        simp [ev21, execOp, go_sem]
      · refine softR_val 23 _ (by kernel_rfl) rfl rfl ?_
        intro a W hx hout hdep
        have ev22 : a.tmps[22]?.getD undef = .pointer (some ⟨b, o + 2, none⟩) := by rw [← Array.getD_eq_getD_getElem?]; exact (hdep ⟨6, .data⟩ (by simp) rfl 22 _ rfl).1
        have q0 := hK W hx.1 hc.c2
        have q1 := hK W hx.1 hc.c3
        refine ⟨rfl, idv x.lc x.lk, W, ?_, rfl, JRel.refl _ _ _⟩
        simp [ev22, q0, q1, execOp, go_sem]
      · refine softR_val 24 _ (by kernel_rfl) rfl rfl ?_
        intro a W hx hout hdep
        have ev0 : a.tmps[0]?.getD undef = .slice (some ⟨b, o, none⟩) k cap := by rw [← Array.getD_eq_getD_getElem?]; exact hout 0 (by show 0 ∉ [16, 17, 18, 19, 20, 21, 22, 23, 24, 25, 26, 27, 28, 29]; decide)
        refine ⟨rfl, .slice (some ⟨b, o, none⟩) k cap, W, ?_, rfl, JRel.refl _ _ _⟩
        simp [ev0, execOp, go_sem]
      · refine softR_val 25 _ (by kernel_rfl) rfl rfl ?_
        intro a W hx hout hdep
        have ev24 : a.tmps[24]?.getD undef = .slice (some ⟨b, o, none⟩) k cap := by rw [← Array.getD_eq_getD_getElem?]; exact (hdep ⟨8, .data⟩ (by simp) rfl 24 _ rfl).1
        refine ⟨rfl, .pointer (some ⟨b, o, none⟩), W, ?_, rfl, JRel.refl _ _ _⟩
        simp [ev24, hlen, execOp, go_sem]
      · refine softR_val 26 _ (by kernel_rfl) rfl rfl ?_
        intro a W hx hout hdep
        have ev25 : a.tmps[25]?.getD undef = .pointer (some ⟨b, o, none⟩) := by rw [← Array.getD_eq_getD_getElem?]; exact (hdep ⟨9, .data⟩ (by simp) rfl 25 _ rfl).1
        refine ⟨rfl, .pointer (some ⟨b, o + 4, none⟩), W, ?_, rfl, JRel.refl _ _ _⟩
        simp [ev25, execOp, go_sem]
      · refine softR_val 27 _ (by kernel_rfl) rfl rfl ?_
        intro a W hx hout hdep
        have ev26 : a.tmps[26]?.getD undef = .pointer (some ⟨b, o + 4, none⟩) := by rw [← Array.getD_eq_getD_getElem?]; exact (hdep ⟨10, .data⟩ (by simp) rfl 26 _ rfl).1
        have q0 := hK W hx.1 hc.c4
        have q1 := hK W hx.1 hc.c5
        refine ⟨rfl, idv x.rc x.rk, W, ?_, rfl, JRel.refl _ _ _⟩
        simp [ev26, q0, q1, execOp, go_sem]
      · refine softR_call 28 _ (by kernel_rfl) rfl rfl ?_
        intro a W hx hout hdep
        have ev3 : a.tmps[3]?.getD undef = .pointer (some ⟨p, 0, none⟩) := by rw [← Array.getD_eq_getD_getElem?]; exact hout 3 (by show 3 ∉ [16, 17, 18, 19, 20, 21, 22, 23, 24, 25, 26, 27, 28, 29]; decide)
        refine ⟨rfl, 29, #[.pointer (some ⟨p, 0, none⟩)], ?_, ?_⟩
        · simp [ev3, execOp, go_sem]
        · exact (string_any p p L W (hx.2 hB) (Nat.le_trans hpw hx.1.size)).mono (by rintro e W1 ⟨h1, h2, h3⟩; exact ⟨_, h1, rfl, h3, fun _ => h2⟩)
      · refine softR_val 29 _ (by kernel_rfl) rfl rfl ?_
        intro a W hx hout hdep
        have ev19 : a.tmps[19]?.getD undef = idv x.c x.k := by rw [← Array.getD_eq_getD_getElem?]; exact (hdep ⟨3, .data⟩ (by simp) rfl 19 _ rfl).1
        have ev23 : a.tmps[23]?.getD undef = idv x.lc x.lk := by rw [← Array.getD_eq_getD_getElem?]; exact (hdep ⟨7, .data⟩ (by simp) rfl 23 _ rfl).1
        have ev27 : a.tmps[27]?.getD undef = idv x.rc x.rk := by rw [← Array.getD_eq_getD_getElem?]; exact (hdep ⟨11, .data⟩ (by simp) rfl 27 _ rfl).1
        have ev28 : a.tmps[28]?.getD undef = .string ⟨L.toArray⟩ := by rw [← Array.getD_eq_getD_getElem?]; exact (hdep ⟨12, .data⟩ (by simp) rfl 28 _ rfl).1
        refine ⟨rfl, rnv ⟨x.c, x.k, x.lc, x.lk, x.rc, x.rk, L⟩, W, ?_, rfl, JRel.refl _ _ _⟩
        simp [ev19, ev23, ev27, ev28, execOp, go_sem]

end Go.Proofs.YtjhhohoeeacckaaDoor
