/-
  Several texts of this seat in one file, each in the namespace again; no claim stands here.
-/
import Derived.StillTail
import Derived.StillTactics
import Derived.Test.YtnocdfmmhnnbeaaXP
import Derived.Test.YtnocdfmmhnnbeaaXO
namespace Go.Proofs.Ytnocdfmmhnnbeaa
open Go.ChangeShapes Go.WideShapes Go.ChangeAt Go.RowKit Go.Sort
set_option linter.unusedVariables false
set_option linter.unusedSimpArgs false
attribute [local go_sem] World.cell?_alloc_some

theorem made_take (z : Array Value) (n : Nat) (hz : z.size = 6) (hn : 1 ≤ n) : (madeCells z (n * 6)).toList.take 6 = z.toList := by
  have h6 : 6 ≤ n * 6 := by omega
  unfold madeCells
  rw [Array.toList_map, ← List.map_take, Array.toList_range, List.take_range, Nat.min_eq_left h6]
  obtain ⟨l⟩ := z
  match l, hz with
  | [a, b, c, d, e, f], _ => rfl
theorem make_nodes (n : Nat) (hn : n ≤ 5026338869800) (W : World) : (Instr.makeSlice 58 (.int .i64 1) (.int .i64 ((n + 1 : Nat) : Int))).run Try.prog W = .ok (.slice (some ⟨W.heap.size, 0, none⟩) 1 (n + 1)) (W.alloc (.cells (madeCells #[.int .u32 0, .int .u32 0, .int .i64 0, .bool false, .int .i64 0, .int .i64 0] ((n + 1) * 6)) 68)) ∧
    NdB (W.alloc (.cells (madeCells #[.int .u32 0, .int .u32 0, .int .i64 0, .bool false, .int .i64 0, .int .i64 0] ((n + 1) * 6)) 68)) W.heap.size (n + 1) [nd0] := by
  obtain ⟨i, hi, hz0, hz1, hz2⟩ := info_parts infoN
  have hr := run_make (P := Try.prog) W 58 68 i _ Try.underlying58 hi hz0 .i64 .i64 1 ((n + 1 : Nat) : Int) (by omega) (by omega) (by rw [hz2]; omega) (by omega)
  rw [hz1] at hr
  refine ⟨hr, _, heap_alloc_new W _, ?_, by simp, ?_⟩
  · rw [size_madeCells]
  · show (madeCells _ _).toList.take 6 = _
    rw [made_take _ _ rfl (by omega)]
    rfl
/-- the root alone, in blocks of the call's own -/
structure GrZ (s0 : Nat) (W : World) (g b cap mb : Nat) : Prop where
  box : W.heap[g]? = some (.cells #[.slice (some ⟨b, 0, none⟩) 1 cap, .map (some mb)] 61 (0, 0))
  nds : NdB W b cap [nd0]
  map : MapS W mb []
  lowG : s0 ≤ g
  lowB : s0 ≤ b
  lowM : s0 ≤ mb
  gb : g ≠ b
  gm : g ≠ mb
theorem GrZ.ext {s0 : Nat} {W W' : World} {g b cap mb : Nat} (h : GrZ s0 W g b cap mb) (hx : Ext W W') : GrZ s0 W' g b cap mb :=
  ⟨(RowKit.Below.block hx g (Array.getElem?_eq_some_iff.1 h.box).1).trans h.box, h.nds.ext hx, h.map.ext hx, h.lowG, h.lowB, h.lowM, h.gb, h.gm⟩
theorem GrZ.boxed {s0 : Nat} {W : World} {b cap mb : Nat} (h1 : NdB W b cap [nd0]) (h2 : MapS W mb []) (h3 : s0 ≤ W.heap.size) (h4 : s0 ≤ b) (h5 : s0 ≤ mb) :
    GrZ s0 (W.alloc (.cells #[.slice (some ⟨b, 0, none⟩) 1 cap, .map (some mb)] 61)) W.heap.size b cap mb :=
  ⟨heap_alloc_new W _, h1.ext ((Ext.refl _).alloc _), h2.ext ((Ext.refl _).alloc _), h3, h4, h5, by have := h1.lt; omega, by have := h2.lt; omega⟩
theorem GrZ.grown {w W : World} {g b cap mb : Nat} (h : GrZ w.heap.size W g b cap mb) : GrO w W g b cap mb [] [nd0] :=
  ⟨GrN.nil, rfl, h.box, h.nds, h.map, h.lowG, h.lowB, h.lowM, h.gb, h.gm, fun e => by
    obtain ⟨cur, h1, _⟩ := h.nds
    obtain ⟨es, clk, h2, _⟩ := h.map
    rw [e, h2] at h1
    cases h1⟩

/-- what the slots hold -/
def ugw1 (A : Option Addr) (n cap s0 : Nat) : SoftTab := [(6, fun z9 W => z9 = .slice A n cap),
  (7, fun z9 W => z9 = Vi (n : Int)),
  (8, fun z9 W => z9 = Vi ((n : Int) + 1)),
  (9, fun z9 W => ∃ q, z9 = .slice (some ⟨q, 0, none⟩) 1 (n + 1) ∧ s0 ≤ q ∧ NdB W q (n + 1) [nd0]),
  (10, fun z9 W => z9 = .slice A n cap),
  (11, fun z9 W => z9 = Vi (n : Int)),
  (12, fun z9 W => ∃ q, z9 = .map (some q) ∧ s0 ≤ q ∧ MapS W q []),
  (13, fun z9 W => ∃ q1 q2, z9 = .agg #[.slice (some ⟨q1, 0, none⟩) 1 (n + 1), .map (some q2)] ∧ s0 ≤ q1 ∧ s0 ≤ q2 ∧ NdB W q1 (n + 1) [nd0] ∧ MapS W q2 []),
  (14, fun z9 W => ∃ g q1 q2, z9 = .pointer (some ⟨g, 0, none⟩) ∧ GrZ s0 W g q1 (n + 1) q2)]
theorem ugw1_mono (A : Option Addr) (n cap s0 : Nat) (Rel : World → World → Prop) (hR : ∀ W W', Rel W W' → Ext W W') : SoftMonoR Rel (ugw1 A n cap s0) := by
  intro p hp v W W' h hx
  simp only [ugw1, List.mem_cons, List.not_mem_nil, or_false] at hp
  rcases hp with rfl | rfl | rfl | rfl | rfl | rfl | rfl | rfl | rfl
  all_goals first
    | exact h
    | (obtain ⟨q, h1, h2, h3⟩ := h
       exact ⟨q, h1, h2, h3.ext (hR _ _ hx)⟩)
    | (obtain ⟨q1, q2, h1, h2, h3, h4, h5⟩ := h
       exact ⟨q1, q2, h1, h2, h3, h4.ext (hR _ _ hx), h5.ext (hR _ _ hx)⟩)
    | (obtain ⟨g, q1, q2, h1, h2⟩ := h
       exact ⟨g, q1, q2, h1, h2.ext (hR _ _ hx)⟩)

/-- what the slots hold -/
def ugw2 (g xb : Nat) (x : It) (R : Hg) : SoftTab := [(21, fun z9 W => z9 = .pointer (some ⟨g, 0, none⟩)),
  (22, fun z9 W => z9 = .pointer (some ⟨xb, 0, none⟩)),
  (23, fun z9 W => z9 = .agg #[.int .u32 x.c, .int .u32 x.k]),
  (24, fun z9 W => z9 = itv x),
  (25, fun z9 W => z9 = .pointer (some ⟨g, 0, none⟩)),
  (26, fun z9 W => z9 = .func (.func 26) #[.pointer (some ⟨g, 0, none⟩)] #[]),
  (27, fun z9 W => z9 = hgv R)]
theorem ugw2_mono (g xb : Nat) (x : It) (R : Hg) (Rel : World → World → Prop) (hR : ∀ W W', Rel W W' → Ext W W') : SoftMonoR Rel (ugw2 g xb x R) := by
  intro p hp v W W' h hx
  simp only [ugw2, List.mem_cons, List.not_mem_nil, or_false] at hp
  rcases hp with rfl | rfl | rfl | rfl | rfl | rfl | rfl
  all_goals exact h

set_option maxRecDepth 100000 in
set_option maxHeartbeats 16000000 in
theorem grow_any (A : Option Addr) (n cap : Nat) (l : List It) (w : World) (hv : ItS w A l) (hk : knownI l = true) (hn : l.length = n) (hcp : n ≤ cap) (hb : n ≤ 5026338869800) :
    Calls Try.prog 18 #[.slice A n cap] w fun e w' => ∃ g b c mb ns, e = .returned (.pointer (some ⟨g, 0, none⟩)) ∧ GrO w w' g b c mb l ns ∧ Ext w w' := by
  replace hn := Lib.hid hn
  replace hv := Lib.hid hv
  replace hk := Lib.hid hk
  have hw1 : wrap64 ((n : Int) + 1) = ((n + 1 : Nat) : Int) := by rw [w64_in (by omega) (by omega)]; rfl
  have hw2 : IntKind.i64.wrap ((n : Int) + 1) = (n : Int) + 1 := by rw [IntWalk.i64_left]; exact w64_in (by omega) (by omega)
  obtain ⟨s0, hs0⟩ : ∃ s0, w.heap.size = s0 := ⟨_, rfl⟩
  replace hs0 := Lib.hid hs0
  go_enter Try.func18, Try.ntmps18
  go_wp2_with fail
  refine wp_soft_frame Ext 9 (ugw1 A n cap s0) (by kernel_rfl) (by kernel_rfl) (fun _ _ _ => Ext.trans) ((Ext.refl _).drew) rfl (by show List.Nodup [6, 7, 8, 9, 10, 11, 12, 13, 14]; decide) (by show ∀ d ∈ [6, 7, 8, 9, 10, 11, 12, 13, 14], d < 31; decide) (ugw1_mono A n cap s0 Ext (fun _ _ h => h)) ?_ ⟨?_, ?_, ?_, ?_, ?_, ?_, ?_, ?_, ?_, trivial⟩
  · intro W vs hT hR
    match vs, hT with
    | [v0, v1, v2, v3, v4, v5, v6, v7, v8], ⟨e0, e1, e2, e3, e4, e5, e6, e7, e8, _⟩ =>
      simp only [ugw1, List.map_cons, List.map_nil, List.zip_cons_cons, List.zip_nil_left, putAll, List.setIfInBounds_toArray, List.set_cons_zero, List.set_cons_succ, List.drop_succ_cons, List.drop_zero]
      simp only at e0 e1 e2 e4 e5
      obtain ⟨q3, e3, h3⟩ := e3
      obtain ⟨q6, e6, h6⟩ := e6
      obtain ⟨q7, q7b, e7, h7⟩ := e7
      obtain ⟨q8, q8b, q8m, e8, h8⟩ := e8
      rw [e0, e1, e2, e3, e4, e5, e6, e7, e8]
      clear e0 e1 e2 e3 e4 e5 e6 e7 e8 v0 v1 v2 v3 v4 v5 v6 v7 v8
      clear h3 h6 h7 hT
      have hg0 := Lib.hid (show GrO w W q8 q8b (n + 1) q8m (l.take 0) [nd0] from GrZ.grown (hs0.out.symm ▸ h8))
      have hx0 := Lib.hid hR
      clear hR h8
      generalize q8 = g at *
      generalize q8b = b at *
      generalize q8m = mb at *
      go_wp2
      go_loopw [17] (fun i W => ∃ (j : Nat), j ≤ n ∧ i = Vi (j : Int) ∧ (∃ ns, Hid (GrO w W g b (n + 1) mb (l.take j) ns)) ∧ Hid (Ext w W)) (fun i _ => n - (intOf i).toNat)
      case atStart => exact ⟨0, Nat.zero_le _, rfl, ⟨_, hg0⟩, hx0⟩
      case round =>
        clear hg0 hx0
        obtain ⟨j, hj, rfl, ⟨ns, ho⟩, hx⟩ := hrel
        by_cases hlt : j < n
        · obtain ⟨bx, o, x, hA, hp, d⟩ := (hv.out.ext hx.out).at (k := j) (by rw [hn.out]; exact hlt)
          obtain ⟨c0, c1, c2, c3, c4, c5, c6⟩ := d
          have hi1 : (0 : Int) ≤ (j : Int) := by omega
          have hi2 : (j : Int) < (n : Int) := by omega
          have hkx := (known_at hk.out hp).1
          have htk := Lib.hid (take_get hp)
          have hks := Lib.hid (show knownI (l.take j ++ [x]) = true by rw [← htk.out]; exact known_take hk.out _)
          have htl := Lib.hid (show (l.take j).length = j by rw [List.length_take, hn.out]; omega)
          have hks2 := knownX_spec hkx
          subst hA
          clear hp
          generalize l.take j = l0 at *
          obtain ⟨R, hR⟩ : ∃ R, hgP l0 x = R := ⟨_, rfl⟩
          have hhang0 := Lib.hid (fun (W : World) (hW : Ext wr W) => hang_m g l0 x W (fun e1 e2 W2 hW2 => below_any g l0 ns x.rc x.rk x.lc x.lk W2 (ho.out.read.ext (hW.trans hW2)) (hks2.2.2.2.resolve_left e1) (hks2.2.2.1.resolve_left e2) (by rw [htl.out]; omega)))
          have hadd0 := Lib.hid (fun (W : World) (hW : Ext wr W) => add_any g b (n + 1) mb l0 ns x w W (ho.out.ext hW) hks.out (hx.out.trans hW) (by rw [htl.out]; omega) (by rw [htl.out]; omega))
          rw [hR] at hhang0 hadd0
          clear hkx hks2 hR
          have x1 : Ext wr (wr.alloc (.cells #[.int .u32 x.c, .int .u32 x.k, .int .u32 x.lc, .int .u32 x.lk, .int .u32 x.rc, .int .u32 x.rk, .int .i32 x.ch] 27)) := (Ext.refl _).alloc _
          have a0 : (wr.alloc (.cells #[.int .u32 x.c, .int .u32 x.k, .int .u32 x.lc, .int .u32 x.lk, .int .u32 x.rc, .int .u32 x.rk, .int .i32 x.ch] 27)).cell? ⟨wr.heap.size, 0, none⟩ = some (Vu x.c) := by simp [go_sem]
          have a1 : (wr.alloc (.cells #[.int .u32 x.c, .int .u32 x.k, .int .u32 x.lc, .int .u32 x.lk, .int .u32 x.rc, .int .u32 x.rk, .int .i32 x.ch] 27)).cell? ⟨wr.heap.size, 1, none⟩ = some (Vu x.k) := by simp [go_sem]
          have a2 : (wr.alloc (.cells #[.int .u32 x.c, .int .u32 x.k, .int .u32 x.lc, .int .u32 x.lk, .int .u32 x.rc, .int .u32 x.rk, .int .i32 x.ch] 27)).cell? ⟨wr.heap.size, 2, none⟩ = some (Vu x.lc) := by simp [go_sem]
          have a3 : (wr.alloc (.cells #[.int .u32 x.c, .int .u32 x.k, .int .u32 x.lc, .int .u32 x.lk, .int .u32 x.rc, .int .u32 x.rk, .int .i32 x.ch] 27)).cell? ⟨wr.heap.size, 3, none⟩ = some (Vu x.lk) := by simp [go_sem]
          have a4 : (wr.alloc (.cells #[.int .u32 x.c, .int .u32 x.k, .int .u32 x.lc, .int .u32 x.lk, .int .u32 x.rc, .int .u32 x.rk, .int .i32 x.ch] 27)).cell? ⟨wr.heap.size, 4, none⟩ = some (Vu x.rc) := by simp [go_sem]
          have a5 : (wr.alloc (.cells #[.int .u32 x.c, .int .u32 x.k, .int .u32 x.lc, .int .u32 x.lk, .int .u32 x.rc, .int .u32 x.rk, .int .i32 x.ch] 27)).cell? ⟨wr.heap.size, 5, none⟩ = some (Vu x.rk) := by simp [go_sem]
          have a6 : (wr.alloc (.cells #[.int .u32 x.c, .int .u32 x.k, .int .u32 x.lc, .int .u32 x.lk, .int .u32 x.rc, .int .u32 x.rk, .int .i32 x.ch] 27)).cell? ⟨wr.heap.size, 6, none⟩ = some (.int .i32 x.ch) := by simp [go_sem]
          replace x1 := Lib.hid x1
          go_wp2_with fail
          generalize wr.alloc (.cells #[.int .u32 x.c, .int .u32 x.k, .int .u32 x.lc, .int .u32 x.lk, .int .u32 x.rc, .int .u32 x.rk, .int .i32 x.ch] 27) = w1 at *
          generalize wr.heap.size = xb at *
          have hhang := Lib.hid (fun (W : World) (hW : Ext w1 W) => hhang0.out W (x1.out.trans hW))
          have hadd := Lib.hid (fun (W : World) (hW : Ext w1 W) => hadd0.out W (x1.out.trans hW))
          clear hhang0 hadd0 c0 c1 c2 c3 c4 c5 c6
          refine wp_soft_frame Ext 7 (ugw2 g xb x R) (by kernel_rfl) (by kernel_rfl) (fun _ _ _ => Ext.trans) ((Ext.refl _).drew) rfl (by show List.Nodup [21, 22, 23, 24, 25, 26, 27]; decide) (by show ∀ d ∈ [21, 22, 23, 24, 25, 26, 27], d < 31; decide) (ugw2_mono g xb x R Ext (fun _ _ h => h)) ?_ ⟨?_, ?_, ?_, ?_, ?_, ?_, ?_, trivial⟩
          · intro W vs hT hR
            match vs, hT with
            | [v0, v1, v2, v3, v4, v5, v6], ⟨e0, e1, e2, e3, e4, e5, e6, _⟩ =>
              simp only [ugw2, List.map_cons, List.map_nil, List.zip_cons_cons, List.zip_nil_left, putAll, List.setIfInBounds_toArray, List.set_cons_zero, List.set_cons_succ, List.drop_succ_cons, List.drop_zero]
              simp only at e0 e1 e2 e3 e4 e5 e6
              rw [e0, e1, e2, e3, e4, e5, e6]
              clear e0 e1 e2 e3 e4 e5 e6 v0 v1 v2 v3 v4 v5 v6
              clear a0 a1 a2 a3 a4 a5 a6 hT hhang ho
              go_wp2_with fail
              refine (hadd.out _ hR).mono ?_
              rintro e w3 ⟨rfl, ⟨ns', h3⟩, x3⟩
              have h3' := Lib.hid (show GrO w w3 g b (n + 1) mb (l.take (j + 1)) ns' by rw [htk.out]; exact h3)
              replace x3 := Lib.hid x3
              clear h3
              go_wp2
              go_roundw
              case rel =>
                exact ⟨j + 1, by omega, by go_num, ⟨ns', h3'⟩, x3⟩
              case measure => simp [intOf]; omega
          · refine softR_val 21 _ (by kernel_rfl) rfl rfl ?_
            intro a W hx hout hdep
            have ev3 : a.tmps[3]?.getD undef = .pointer (some ⟨g, 0, none⟩) := by rw [← Array.getD_eq_getD_getElem?]; exact hout 3 (by show 3 ∉ [21, 22, 23, 24, 25, 26, 27]; decide)
            refine ⟨rfl, .pointer (some ⟨g, 0, none⟩), W, ?_, rfl, Ext.refl _⟩
            simp [ev3, execOp, go_sem]
          · refine softR_val 22 _ (by kernel_rfl) rfl rfl ?_
            intro a W hx hout hdep
            have ev5 : a.tmps[5]?.getD undef = .pointer (some ⟨xb, 0, none⟩) := by rw [← Array.getD_eq_getD_getElem?]; exact hout 5 (by show 5 ∉ [21, 22, 23, 24, 25, 26, 27]; decide)
            refine ⟨rfl, .pointer (some ⟨xb, 0, none⟩), W, ?_, rfl, Ext.refl _⟩
            simp [ev5, execOp, go_sem]
          · refine softR_val 23 _ (by kernel_rfl) rfl rfl ?_
            intro a W hx hout hdep
            have ev22 : a.tmps[22]?.getD undef = .pointer (some ⟨xb, 0, none⟩) := by rw [← Array.getD_eq_getD_getElem?]; exact (hdep ⟨1, .data⟩ (by simp) rfl 22 _ rfl).1
            have q0 := hx.keep a0
            have q1 := hx.keep a1
            refine ⟨rfl, .agg #[.int .u32 x.c, .int .u32 x.k], W, ?_, rfl, Ext.refl _⟩
            simp [ev22, q0, q1, execOp, go_sem]
          · refine softR_val 24 _ (by kernel_rfl) rfl rfl ?_
            intro a W hx hout hdep
            have ev5 : a.tmps[5]?.getD undef = .pointer (some ⟨xb, 0, none⟩) := by rw [← Array.getD_eq_getD_getElem?]; exact hout 5 (by show 5 ∉ [21, 22, 23, 24, 25, 26, 27]; decide)
            have q0 := hx.keep a0
            have q1 := hx.keep a1
            have q2 := hx.keep a2
            have q3 := hx.keep a3
            have q4 := hx.keep a4
            have q5 := hx.keep a5
            have q6 := hx.keep a6
            refine ⟨rfl, itv x, W, ?_, rfl, Ext.refl _⟩
            simp [ev5, q0, q1, q2, q3, q4, q5, q6, execOp, go_sem]
          · refine softR_val 25 _ (by kernel_rfl) rfl rfl ?_
            intro a W hx hout hdep
            have ev3 : a.tmps[3]?.getD undef = .pointer (some ⟨g, 0, none⟩) := by rw [← Array.getD_eq_getD_getElem?]; exact hout 3 (by show 3 ∉ [21, 22, 23, 24, 25, 26, 27]; decide)
            refine ⟨rfl, .pointer (some ⟨g, 0, none⟩), W, ?_, rfl, Ext.refl _⟩
            simp [ev3, execOp, go_sem]
          · refine softR_val 26 _ (by kernel_rfl) rfl rfl ?_
            intro a W hx hout hdep
            have ev25 : a.tmps[25]?.getD undef = .pointer (some ⟨g, 0, none⟩) := by rw [← Array.getD_eq_getD_getElem?]; exact (hdep ⟨4, .data⟩ (by simp) rfl 25 _ rfl).1
            refine ⟨rfl, .func (.func 26) #[.pointer (some ⟨g, 0, none⟩)] #[], W, ?_, rfl, Ext.refl _⟩
            simp [ev25, execOp, go_sem]
          · refine softR_call 27 _ (by kernel_rfl) rfl rfl ?_
            intro a W hx hout hdep
            have ev24 : a.tmps[24]?.getD undef = itv x := by rw [← Array.getD_eq_getD_getElem?]; exact (hdep ⟨3, .data⟩ (by simp) rfl 24 _ rfl).1
            have ev26 : a.tmps[26]?.getD undef = .func (.func 26) #[.pointer (some ⟨g, 0, none⟩)] #[] := by rw [← Array.getD_eq_getD_getElem?]; exact (hdep ⟨5, .data⟩ (by simp) rfl 26 _ rfl).1
            refine ⟨rfl, 24, #[itv x, .func (.func 26) #[.pointer (some ⟨g, 0, none⟩)] #[]], ?_, ?_⟩
            · simp [ev24, ev26, execOp, go_sem]
            · exact (hhang.out W hx).mono (by rintro e W1 ⟨rfl, h1⟩; exact ⟨_, rfl, rfl, h1⟩)
        · have hjn : j = n := by omega
          subst hjn
          have ho' := Lib.hid (show GrO w wr g b (j + 1) mb l ns by
            have := ho.out
            rwa [List.take_of_length_le (by rw [hn.out]; omega)] at this)
          go_wp2
          go_ret
          exact ⟨g, b, _, mb, ns, rfl, ho'.out, hx.out⟩
  · refine softR_val 6 _ (by kernel_rfl) rfl rfl ?_
    intro a W hx hout hdep
    have ev0 : a.tmps[0]?.getD undef = .slice A n cap := by rw [← Array.getD_eq_getD_getElem?]; exact hout 0 (by show 0 ∉ [6, 7, 8, 9, 10, 11, 12, 13, 14]; decide)
    refine ⟨rfl, .slice A n cap, W, ?_, rfl, Ext.refl _⟩
    simp [ev0, execOp, go_sem]
  · refine softR_val 7 _ (by kernel_rfl) rfl rfl ?_
    intro a W hx hout hdep
    have ev6 : a.tmps[6]?.getD undef = .slice A n cap := by rw [← Array.getD_eq_getD_getElem?]; exact (hdep ⟨0, .data⟩ (by simp) rfl 6 _ rfl).1
    refine ⟨rfl, Vi (n : Int), W, ?_, rfl, Ext.refl _⟩
    simp [ev6, execOp, go_sem]
  · refine softR_val 8 _ (by kernel_rfl) rfl rfl ?_
    intro a W hx hout hdep
    have ev7 : a.tmps[7]?.getD undef = Vi (n : Int) := by rw [← Array.getD_eq_getD_getElem?]; exact (hdep ⟨1, .data⟩ (by simp) rfl 7 _ rfl).1
    refine ⟨rfl, Vi ((n : Int) + 1), W, ?_, rfl, Ext.refl _⟩
    simp [ev7, hw2, execOp, go_sem]
  · refine softR_val 9 _ (by kernel_rfl) rfl rfl ?_
    intro a W hx hout hdep
    have ev8 : a.tmps[8]?.getD undef = Vi ((n : Int) + 1) := by rw [← Array.getD_eq_getD_getElem?]; exact (hdep ⟨2, .data⟩ (by simp) rfl 8 _ rfl).1
    obtain ⟨hm1, hm2⟩ := make_nodes n hb W
    replace hm1 : (Instr.makeSlice 58 (.int .i64 1) (.int .i64 ((n : Int) + 1))).run Try.prog W = _ := hm1
    refine ⟨rfl, .slice (some ⟨W.heap.size, 0, none⟩) 1 (n + 1), _, ?_, ⟨_, rfl, hs0.out ▸ hx.size, hm2⟩, (Ext.refl W).alloc _⟩
    simp [ev8, execOp, go_sem, hm1, Result.andThen]
  · refine softR_val 10 _ (by kernel_rfl) rfl rfl ?_
    intro a W hx hout hdep
    have ev0 : a.tmps[0]?.getD undef = .slice A n cap := by rw [← Array.getD_eq_getD_getElem?]; exact hout 0 (by show 0 ∉ [6, 7, 8, 9, 10, 11, 12, 13, 14]; decide)
    refine ⟨rfl, .slice A n cap, W, ?_, rfl, Ext.refl _⟩
    simp [ev0, execOp, go_sem]
  · refine softR_val 11 _ (by kernel_rfl) rfl rfl ?_
    intro a W hx hout hdep
    have ev10 : a.tmps[10]?.getD undef = .slice A n cap := by rw [← Array.getD_eq_getD_getElem?]; exact (hdep ⟨4, .data⟩ (by simp) rfl 10 _ rfl).1
    refine ⟨rfl, Vi (n : Int), W, ?_, rfl, Ext.refl _⟩
    simp [ev10, execOp, go_sem]
  · refine softR_val 12 _ (by kernel_rfl) rfl rfl ?_
    intro a W hx hout hdep
    have ev11 : a.tmps[11]?.getD undef = Vi (n : Int) := by rw [← Array.getD_eq_getD_getElem?]; exact (hdep ⟨5, .data⟩ (by simp) rfl 11 _ rfl).1
    refine ⟨rfl, .map (some W.heap.size), _, ?_, ⟨_, rfl, hs0.out ▸ hx.size, MapS.made W⟩, (Ext.refl W).alloc _⟩
    simp [ev11, execOp, go_sem, make_map Try.underlying59, Result.andThen]
  · refine softR_val 13 _ (by kernel_rfl) rfl rfl ?_
    intro a W hx hout hdep
    have tl9 := (hdep ⟨3, .data⟩ (by simp) rfl 9 _ rfl).1
    have tl12 := (hdep ⟨6, .data⟩ (by simp) rfl 12 _ rfl).1
    obtain ⟨q1, hq1, hq2, hq3⟩ := tl9
    obtain ⟨q2, hr1, hr2, hr3⟩ := tl12
    refine ⟨rfl, .agg #[.slice (some ⟨q1, 0, none⟩) 1 (n + 1), .map (some q2)], W, ?_, ⟨_, _, rfl, hq2, hr2, hq3, hr3⟩, Ext.refl _⟩
    rw [Array.getD_eq_getD_getElem?] at hq1 hr1
    simp [execOp, go_sem, hq1, hr1]
  · refine softR_val 14 _ (by kernel_rfl) rfl rfl ?_
    intro a W hx hout hdep
    have tl13 := (hdep ⟨7, .data⟩ (by simp) rfl 13 _ rfl).1
    obtain ⟨q1, q2, hq1, hq2, hq3, hq4, hq5⟩ := tl13
    refine ⟨rfl, .pointer (some ⟨W.heap.size, 0, none⟩), _, ?_, ⟨_, q1, q2, rfl, GrZ.boxed hq4 hq5 (hs0.out ▸ hx.size) hq2 hq3⟩, (Ext.refl W).alloc _⟩
    rw [Array.getD_eq_getD_getElem?] at hq1
    simp [execOp, go_sem, hq1]

end Go.Proofs.Ytnocdfmmhnnbeaa

namespace Go.Proofs.Ytnocdfmmhnnbeaa
open Go.ChangeShapes Go.WideShapes Go.ChangeAt Go.RowKit Go.Sort
set_option linter.unusedVariables false
set_option linter.unusedSimpArgs false
attribute [local go_sem] World.cell?_alloc_some

/-- what the slots hold -/
def upl (A : Option Addr) (n cap : Nat) (l : List It) (a1 a2 b1 b2 : Int) : SoftTab := [(6, fun z9 W => z9 = .slice A n cap),
  (7, fun z9 W => ∃ g, z9 = .pointer (some ⟨g, 0, none⟩) ∧ ∃ ns, GrS W g l ns),
  (8, fun z9 W => z9 = .agg #[.int .u32 a1, .int .u32 a2]),
  (9, fun z9 W => z9 = .agg #[.int .u32 b1, .int .u32 b2])]
theorem upl_mono (A : Option Addr) (n cap : Nat) (l : List It) (a1 a2 b1 b2 : Int) (Rel : World → World → Prop) (hR : ∀ W W', Rel W W' → Ext W W') : SoftMonoR Rel (upl A n cap l a1 a2 b1 b2) := by
  intro p hp v W W' h hx
  simp only [upl, List.mem_cons, List.not_mem_nil, or_false] at hp
  rcases hp with rfl | rfl | rfl | rfl
  all_goals first
    | exact h
    | exact (by obtain ⟨g, h1, ns, h2⟩ := h; exact ⟨g, h1, ns, h2.ext (hR _ _ hx)⟩)

set_option maxRecDepth 100000 in
set_option maxHeartbeats 16000000 in
theorem place1_any (A : Option Addr) (n cap q : Nat) (l : List It) (a1 a2 b1 b2 : Int) (w : World) (g0 : w.cell? ⟨q, 0, none⟩ = some (.slice A n cap)) (hv : ItS w A l) (hk : knownI l = true) (ha : hasI l (a1, a2) = true) (hbb : hasI l (b1, b2) = true) (hn : l.length = n) (hcp : n ≤ cap) (hb : n ≤ 5026338869800) :
    Calls Try.prog 25 #[idv a1 a2, idv b1 b2, .pointer (some ⟨q, 0, none⟩)] w fun e w' => e = .returned (.bool (blwP l (paths l) (a1, a2) (b1, b2))) ∧ Ext w w' := by
  have hgrow0 := Lib.hid (fun (W : World) (hW : Ext w W) => grow_any A n cap l W (hv.ext hW) hk hn hcp hb)
  have hbel := Lib.hid (fun (g : Nat) (ns : List Nd) (W : World) (hW : GrS W g l ns) => below_any g l ns a1 a2 b1 b2 W hW ha hbb (by rw [hn]; omega))
  obtain ⟨B, hB⟩ : ∃ B, blwP l (paths l) (a1, a2) (b1, b2) = B := ⟨_, rfl⟩
  rw [hB] at hbel ⊢
  clear hv hk ha hbb hn hB
  have x0 := ((Ext.refl w).alloc (.cells #[.int .u32 a1, .int .u32 a2] 25)).alloc (.cells #[.int .u32 b1, .int .u32 b2] 25)
  have k0 : ((w.alloc (.cells #[.int .u32 a1, .int .u32 a2] 25)).alloc (.cells #[.int .u32 b1, .int .u32 b2] 25)).cell? ⟨w.heap.size, 0, none⟩ = some (Vu a1) := by simp [go_sem]
  have k1 : ((w.alloc (.cells #[.int .u32 a1, .int .u32 a2] 25)).alloc (.cells #[.int .u32 b1, .int .u32 b2] 25)).cell? ⟨w.heap.size, 1, none⟩ = some (Vu a2) := by simp [go_sem]
  have k2 : ((w.alloc (.cells #[.int .u32 a1, .int .u32 a2] 25)).alloc (.cells #[.int .u32 b1, .int .u32 b2] 25)).cell? ⟨w.heap.size + 1, 0, none⟩ = some (Vu b1) := by simp [go_sem]
  have k3 : ((w.alloc (.cells #[.int .u32 a1, .int .u32 a2] 25)).alloc (.cells #[.int .u32 b1, .int .u32 b2] 25)).cell? ⟨w.heap.size + 1, 1, none⟩ = some (Vu b2) := by simp [go_sem]
  replace g0 := x0.keep g0
  replace x0 := Lib.hid x0
  go_enter Try.func25, Try.ntmps25
  go_wp2_with fail
  generalize (w.alloc (.cells #[.int .u32 a1, .int .u32 a2] 25)).alloc (.cells #[.int .u32 b1, .int .u32 b2] 25) = w1 at *
  generalize w.heap.size = pa at *
  obtain ⟨pb, hpb⟩ : ∃ pb, pa + 1 = pb := ⟨_, rfl⟩
  rw [hpb] at k2 k3 ⊢
  clear hpb
  have hgrow := Lib.hid (fun (W : World) (hW : Ext w1 W) => hgrow0.out W (x0.out.trans hW))
  clear hgrow0
  refine wp_soft_frame Ext 4 (upl A n cap l a1 a2 b1 b2) (by kernel_rfl) (by kernel_rfl) (fun _ _ _ => Ext.trans) ((Ext.refl _).drew) rfl (by show List.Nodup [6, 7, 8, 9]; decide) (by show ∀ d ∈ [6, 7, 8, 9], d < 11; decide) (upl_mono A n cap l a1 a2 b1 b2 Ext (fun _ _ h => h)) ?_ ⟨?_, ?_, ?_, ?_, trivial⟩
  · intro W vs hT hR
    match vs, hT with
    | [v0, v1, v2, v3], ⟨e0, e1, e2, e3, _⟩ =>
      simp only [upl, List.map_cons, List.map_nil, List.zip_cons_cons, List.zip_nil_left, putAll, List.setIfInBounds_toArray, List.set_cons_zero, List.set_cons_succ, List.drop_succ_cons, List.drop_zero]
      simp only at e0 e2 e3
      obtain ⟨q1, e1, h1⟩ := e1
      rw [e0, e1, e2, e3]
      clear e0 e1 e2 e3 v0 v1 v2 v3
      obtain ⟨ns, hG⟩ := h1
      have hE := Lib.hid (x0.out.trans hR)
      clear k0 k1 k2 k3 g0 hT hgrow
      go_wp2_with fail
      refine (hbel.out q1 ns W hG).mono ?_
      rintro e w3 ⟨rfl, x3⟩
      replace hE := Lib.hid (hE.out.trans x3)
      clear x3 hG
      go_wp2
      go_ret
      exact ⟨rfl, hE.out⟩
  · refine softR_val 6 _ (by kernel_rfl) rfl rfl ?_
    intro a W hx hout hdep
    have ev2 : a.tmps[2]?.getD undef = .pointer (some ⟨q, 0, none⟩) := by rw [← Array.getD_eq_getD_getElem?]; exact hout 2 (by show 2 ∉ [6, 7, 8, 9]; decide)
    have q0 := hx.keep g0
    refine ⟨rfl, .slice A n cap, W, ?_, rfl, Ext.refl _⟩
    simp [ev2, q0, execOp, go_sem]
  · refine softR_call 7 _ (by kernel_rfl) rfl rfl ?_
    intro a W hx hout hdep
    have ev6 : a.tmps[6]?.getD undef = .slice A n cap := by rw [← Array.getD_eq_getD_getElem?]; exact (hdep ⟨0, .data⟩ (by simp) rfl 6 _ rfl).1
    refine ⟨rfl, 18, #[.slice A n cap], ?_, ?_⟩
    · simp [ev6, execOp, go_sem]
    · exact (hgrow.out W hx).mono (by rintro e W1 ⟨g, b, c, mb, ns, rfl, h1, h2⟩; exact ⟨_, rfl, ⟨g, rfl, ns, h1.read⟩, h2⟩)
  · refine softR_val 8 _ (by kernel_rfl) rfl rfl ?_
    intro a W hx hout hdep
    have ev3 : a.tmps[3]?.getD undef = .pointer (some ⟨pa, 0, none⟩) := by rw [← Array.getD_eq_getD_getElem?]; exact hout 3 (by show 3 ∉ [6, 7, 8, 9]; decide)
    have q0 := hx.keep k0
    have q1 := hx.keep k1
    refine ⟨rfl, .agg #[.int .u32 a1, .int .u32 a2], W, ?_, rfl, Ext.refl _⟩
    simp [ev3, q0, q1, execOp, go_sem]
  · refine softR_val 9 _ (by kernel_rfl) rfl rfl ?_
    intro a W hx hout hdep
    have ev4 : a.tmps[4]?.getD undef = .pointer (some ⟨pb, 0, none⟩) := by rw [← Array.getD_eq_getD_getElem?]; exact hout 4 (by show 4 ∉ [6, 7, 8, 9]; decide)
    have q0 := hx.keep k2
    have q1 := hx.keep k3
    refine ⟨rfl, .agg #[.int .u32 b1, .int .u32 b2], W, ?_, rfl, Ext.refl _⟩
    simp [ev4, q0, q1, execOp, go_sem]

set_option maxRecDepth 100000 in
set_option maxHeartbeats 16000000 in
theorem place_tr (A : Option Addr) (n cap : Nat) (l : List It) (x : It) (w : World) (hv : ItS w A l) (hk : knownI l = true) (hx : knownX l x = true) (hn : l.length = n) (hcp : n ≤ cap) (hb : n ≤ 5026338869800) :
    Calls Try.prog 13 #[.slice A n cap, itv x] w fun e w' => e = .returned (hgv (hgP l x)) ∧ Ext w w' := by
  obtain ⟨_, _, hl, hr⟩ := knownX_spec hx
  have hcall := Lib.hid (fun (q : Nat) (W : World) (hW : Ext w W) (g0 : W.cell? ⟨q, 0, none⟩ = some (.slice A n cap)) => hang_c q l x W (fun e1 e2 W2 hW2 => place1_any A n cap q l x.rc x.rk x.lc x.lk W2 (hW2.keep g0) (hv.ext (hW.trans hW2)) hk (hr.resolve_left e1) (hl.resolve_left e2) hn hcp hb))
  obtain ⟨R, hR⟩ : ∃ R, hgP l x = R := ⟨_, rfl⟩
  rw [hR] at hcall ⊢
  clear hl hr hR hx hk hn hv
  obtain ⟨⟨ra, rb⟩, rr⟩ := R
  go_enter Try.func13, Try.ntmps13
  go_wp2_with fail
  have x0 : Ext w (((w.alloc (.cells #[.slice A n cap] 22)).alloc (.cells #[.int .u32 x.c, .int .u32 x.k, .int .u32 x.lc, .int .u32 x.lk, .int .u32 x.rc, .int .u32 x.rk, .int .i32 x.ch] 27)).alloc (.cells #[.int .u32 0, .int .u32 0, .bool false] 35)) := (((Ext.refl w).alloc _).alloc _).alloc _
  have g0 : (((w.alloc (.cells #[.slice A n cap] 22)).alloc (.cells #[.int .u32 x.c, .int .u32 x.k, .int .u32 x.lc, .int .u32 x.lk, .int .u32 x.rc, .int .u32 x.rk, .int .i32 x.ch] 27)).alloc (.cells #[.int .u32 0, .int .u32 0, .bool false] 35)).cell? ⟨w.heap.size, 0, none⟩ = some (.slice A n cap) := by simp [go_sem]
  have b0 : HtIs (((w.alloc (.cells #[.slice A n cap] 22)).alloc (.cells #[.int .u32 x.c, .int .u32 x.k, .int .u32 x.lc, .int .u32 x.lk, .int .u32 x.rc, .int .u32 x.rk, .int .i32 x.ch] 27)).alloc (.cells #[.int .u32 0, .int .u32 0, .bool false] 35)) (w.heap.size + 2) ⟨(0, 0), false⟩ := by
    have := HtIs.new ((w.alloc (.cells #[.slice A n cap] 22)).alloc (.cells #[.int .u32 x.c, .int .u32 x.k, .int .u32 x.lc, .int .u32 x.lk, .int .u32 x.rc, .int .u32 x.rk, .int .i32 x.ch] 27)) 0 0 false
    rwa [show ((w.alloc (.cells #[.slice A n cap] 22)).alloc (.cells #[.int .u32 x.c, .int .u32 x.k, .int .u32 x.lc, .int .u32 x.lk, .int .u32 x.rc, .int .u32 x.rk, .int .i32 x.ch] 27)).heap.size = w.heap.size + 2 by simp] at this
  refine (hcall.out w.heap.size _ x0 g0).mono ?_
  rintro e w1 ⟨rfl, x1⟩
  replace b0 := Lib.hid (b0.ext x1)
  have xw := x0.trans x1
  clear g0 x0 x1
  have hwb : w.heap.size ≤ w.heap.size + 2 := by omega
  obtain ⟨pb, hpb⟩ : ∃ pb, w.heap.size + 2 = pb := ⟨_, rfl⟩
  rw [hpb] at b0 hwb ⊢
  clear hpb
  obtain ⟨k0, k1, k2⟩ := b0.out.cells
  have f0 := b0.out.thaw 0
  have f1 := b0.out.thaw 1
  have f2 := b0.out.thaw 2
  obtain ⟨z0, z1, z2⟩ := (b0.out.store ra rb rr).cells
  go_wp2
  exact bodyPost_ret (v := hgv ⟨(ra, rb), rr⟩) (by simp [results, Try.results13, go_sem, z0, z1, z2]) rfl ⟨rfl, ((xw.setCell hwb _).setCell hwb _).setCell hwb _⟩

end Go.Proofs.Ytnocdfmmhnnbeaa

namespace Go.Proofs.Ytnocdfmmhnnbeaa
open Go.ChangeShapes Go.WideShapes Go.ChangeAt Go.RowKit Go.Sort
set_option linter.unusedVariables false
set_option linter.unusedSimpArgs false
attribute [local go_sem] World.cell?_alloc_some

theorem infoZ : (Try.prog.info? 3).map (fun i => (i.zero, i.size, i.bytes)) = some (some (.int .i64 0), 1, 8) := by kernel_rfl
/-- from that address on lie these -/
def ZS (w : World) (A : Option Addr) (l : List Int) : Prop := Row w A (l.map Vi)
theorem ZS.ext {w w' : World} {A : Option Addr} {l : List Int} (h : ZS w A l) (hx : Ext w w') : ZS w' A l := Row.ext h hx
theorem ZS.nil (w : World) (A : Option Addr) : ZS w A [] := Row.nil w A
theorem ZS.at {w : World} {A : Option Addr} {l : List Int} (h : ZS w A l) {k : Nat} {z : Int} (hk : l[k]? = some z) : ∃ b o, A = some ⟨b, o, none⟩ ∧ w.cell? ⟨b, o + k, none⟩ = some (Vi z) := by
  have hkl := lt_of_get hk
  obtain ⟨b, o, e, hc⟩ := h (by rw [List.length_map]; omega)
  exact ⟨b, o, e, hc k _ (by rw [List.getElem?_map, hk]; rfl)⟩
theorem ZS.take {w : World} {A : Option Addr} {l : List Int} (h : ZS w A l) (k : Nat) : ZS w A (l.take k) := by
  unfold ZS; rw [List.map_take]; exact Row.take h _
theorem map_Vi_one (l : List Int) : ∀ u ∈ l.map Vi, u.oneCell' = true := by intro u hu; obtain ⟨b, _, rfl⟩ := List.mem_map.1 hu; rfl
theorem ZS.new (w : World) (z : Int) : ZS (w.alloc (.cells #[.int .i64 z] 3)) (some ⟨w.heap.size, 0, none⟩) [z] := Row.new w #[.int .i64 z] 3
theorem uptoZ (A : Option Addr) (n cap k : Nat) (h1 : k ≤ cap) (z : Int) (hz : z = k) (W : World) : (Instr.slice 40 (.slice A n cap) none (some (.int .i64 z)) none).run Try.prog W = .ok (.slice A k cap) W := by
  subst hz
  obtain ⟨i, hi, hz0, hz1, hz2⟩ := info_parts infoZ
  exact run_upto Try.underlying40 hi A n cap k W (by omega) (by omega)
/-- a row of the call's own -/
def OwnZ (w W : World) (v : Value) (l : List Int) : Prop := OwnG 3 1 w W v l.length (l.map Vi)
theorem OwnZ.nil (w W : World) : OwnZ w W (.slice none 0 0) [] := OwnG.nil _ _ _ _
theorem OwnZ.ext {w W W' : World} {v : Value} {l : List Int} (h : OwnZ w W v l) (hx : Ext W W') : OwnZ w W' v l := OwnG.ext h hx
theorem OwnZ.down {w0 w W : World} {v : Value} {l : List Int} (h : OwnZ w W v l) (hx : Ext w0 w) : OwnZ w0 W v l := OwnG.down h hx
theorem OwnZ.lt {w W : World} {v : Value} {l : List Int} (h : OwnZ w W v l) : ∀ k, v.ownBlock = some k → w.heap.size ≤ k ∧ k < W.heap.size := World.ownsRow.lt h
theorem OwnZ.open {w W : World} {v : Value} {l : List Int} (h : OwnZ w W v l) : ∃ A c, v = .slice A l.length c ∧ l.length ≤ c ∧ ZS W A l := by
  obtain ⟨A, c, rfl, hc⟩ := OwnG.form h
  exact ⟨A, c, rfl, hc, OwnG.row h⟩
theorem OwnZ.kept {w W W' : World} {v : Value} {l : List Int} {row : Option Nat} (h : OwnZ w W v l) (hg : W.grownBy W' row) (hn : v.ownBlock = none ∨ v.ownBlock ≠ row) : OwnZ w W' v l := World.ownsRow.kept h hg hn
/-- these are told, in memory of the call's own -/
def RetZ (w : World) (l : List Int) (e : Ending) (w' : World) : Prop := ∃ v, e = .returned v ∧ OwnZ w w' v l ∧ Ext w w'

theorem app_Z (w0 w : World) (ty : TypeId) (v : Value) (l : List Int) (hown : OwnZ w0 w v l) (hx : w0.heap.size ≤ w.heap.size) (A : Option Addr) (m c : Nat) (r : List Int) (hm : r.length = m) (hr : ZS w A r) (hb : l.length + r.length ≤ 17000000000000) :
    ∃ v' w', (Builtin.append_ #[40, 40] ty #[v, .slice A m c]).run Try.prog w = .ok v' w' ∧ OwnZ w0 w' v' (l ++ r) ∧ w.grownBy w' v.ownBlock ∧ (v'.ownBlock = v.ownBlock ∨ v'.ownBlock = some w.heap.size) := by
  obtain ⟨i, hi, hz0, hz1, hz2⟩ := info_parts infoZ
  subst hm
  obtain ⟨v', w', hrun, h2, h3, h4⟩ := run_append_rowB (P := Try.prog) w w0.heap.size 40 ty 3 i _ 1 8 Try.underlying40 hi hz0 hz1 hz2 rfl (by omega) v l.length _ hown A r.length c (r.map Vi) (by rw [List.length_map, Nat.mul_one]) hr (map_Vi_one r)
    (by unfold maxLen; omega) (by omega) hx
  refine ⟨v', w', hrun, ?_, h3, h4⟩
  unfold OwnZ OwnG
  rw [List.map_append, List.length_append]
  exact h2
theorem wpList_append_Z {w0 w : World} {ops : Array Oper} {rest : List Oper} {o : Oper} {a : Act} {Q : Exit → Act → World → Prop} (hgd : o.guard = none) (s x : Operand)
    (ho : o.op = .call { callee := .builtin .append, args := #[s, x], argTypes := #[40, 40] })
    (v : Value) (l : List Int) (hs : a.eval s = v) (hown : OwnZ w0 w v l) (hx : w0.heap.size ≤ w.heap.size)
    (A : Option Addr) (m c : Nat) (r : List Int) (he : a.eval x = .slice A m c) (hm : r.length = m) (hr : ZS w A r) (hb : l.length + r.length ≤ 17000000000000)
    (h : ∀ v' w', OwnZ w0 w' v' (l ++ r) → w.grownBy w' v.ownBlock → (v'.ownBlock = v.ownBlock ∨ v'.ownBlock = some w.heap.size) → wpList Try.prog ops Q rest (a.put o.dst v') w') : wpList Try.prog ops Q (o :: rest) a w := by
  refine wpList_plain hgd fun K hK => ?_
  obtain ⟨v', w', hrun, h2, h3, h4⟩ := app_Z w0 w o.type v l hown hx A m c r hm hr hb
  unfold Oper.wp execOp
  simp only [ho, resolve, invoke, builtin, Sem.run_bind, Sem.run_pure, Result.andThen_ok, List.map_toArray, List.map_cons, List.map_nil, hs, he, hrun]
  exact hK _ _ (h v' w' h2 h3 h4)
/-- make of no ints, with room -/
theorem make_ints (c : Int) (n : Nat) (hc : c = n) (hn : n ≤ 17000000000000) (W : World) : (Instr.makeSlice 40 (.int .i64 0) (.int .i64 c)).run Try.prog W = .ok (.slice (some ⟨W.heap.size, 0, none⟩) 0 n) (W.alloc (.cells (madeCells #[.int .i64 0] n) 3)) := by
  subst hc
  obtain ⟨i, hi, hz0, hz1, hz2⟩ := info_parts infoZ
  have hr := run_make (P := Try.prog) W 40 3 i _ Try.underlying40 hi hz0 .i64 .i64 0 (n : Int) (by omega) (by omega) (by rw [hz2]; omega) (by omega)
  rw [hz1, Nat.mul_one] at hr
  exact hr
theorem OwnZ.made (w W : World) (n : Nat) (hx : w.heap.size ≤ W.heap.size) (hn : n ≤ 17000000000000) : OwnZ w (W.alloc (.cells (madeCells #[.int .i64 0] n) 3)) (.slice (some ⟨W.heap.size, 0, none⟩) 0 n) [] :=
  ⟨rfl, .inr ⟨W.heap.size, n, _, rfl, hx, heap_alloc_new W _, Nat.zero_le _, by unfold maxLen; omega, by rw [size_madeCells, Nat.mul_one], rfl⟩⟩

end Go.Proofs.Ytnocdfmmhnnbeaa

namespace Go.Proofs.Ytnocdfmmhnnbeaa
open Go.ChangeShapes Go.WideShapes Go.ChangeAt Go.RowKit Go.Sort
set_option linter.unusedVariables false
set_option linter.unusedSimpArgs false
attribute [local go_sem] World.cell?_alloc_some

theorem cmp_grows (a b c d : Int) (w : World) : Calls Try.prog 38 #[idv a b, idv c d] w fun e w' => e = .returned (Vi (cmpId a b c d)) ∧ ∃ os, w' = grow w os := by
  by_cases h : a = c
  · subst h
    go_enter Try.func38, Try.ntmps38
    go_wp2_with (go_at_call 41; refine (compare_any _ _ _).mono ?_; rintro e w' ⟨rfl, rfl⟩)
    go_ret
    exact ⟨by simp [cmpId], _, by rw [alloc_eq_grow, alloc_eq_grow, grow_grow]⟩
  · have h' : (a != c) = true := by simpa using h
    go_enter Try.func38, Try.ntmps38
    go_wp2_with (go_at_call 41; refine (compare_any _ _ _).mono ?_; rintro e w' ⟨rfl, rfl⟩)
    go_ret
    exact ⟨by simp [cmpId, h], _, by rw [alloc_eq_grow, alloc_eq_grow, grow_grow]⟩

set_option maxRecDepth 100000 in
set_option maxHeartbeats 16000000 in
theorem fallc_any (g bx : Nat) (l : List It) (ns : List Nd) (x y : Nat) (w : World) (b0 : w.cell? ⟨bx, 0, none⟩ = some (.pointer (some ⟨g, 0, none⟩))) (h : GrT w g l ns) (hx : x ≤ l.length) (hy : y ≤ l.length) :
    Calls Try.prog 37 #[Vi (x : Int), Vi (y : Int), .pointer (some ⟨bx, 0, none⟩)] w fun e w' => e = .returned (Vi (cmpId (idN ns y).1 (idN ns y).2 (idN ns x).1 (idN ns x).2)) ∧ ∃ q os, w' = grow (w.drewN q) os := by
  obtain ⟨b, o, cap, g0, hcap, hN⟩ := h.cells
  obtain ⟨xd, hxd⟩ := h.ok.get hx
  obtain ⟨yd, hyd⟩ := h.ok.get hy
  rw [idN_of hxd, idN_of hyd]
  obtain ⟨c0, c1, _⟩ := hN.at hxd
  obtain ⟨d0, d1, _⟩ := hN.at hyd
  have hi1 : (0 : Int) ≤ (x : Int) := by omega
  have hi2 : (x : Int) < ((l.length + 1 : Nat) : Int) := by omega
  have hj1 : (0 : Int) ≤ (y : Int) := by omega
  have hj2 : (y : Int) < ((l.length + 1 : Nat) : Int) := by omega
  generalize l.length + 1 = K at *
  have hc := Lib.hid (fun W => cmp_grows yd.id.1 yd.id.2 xd.id.1 xd.id.2 W)
  clear h hN hxd hyd hx hy hcap
  have b0' : w.drew.cell? ⟨bx, 0, none⟩ = some (.pointer (some ⟨g, 0, none⟩)) := b0
  have g0' : w.drew.cell? ⟨g, 0, none⟩ = some (.slice (some ⟨b, o, none⟩) K cap) := g0
  have c0' : w.drew.cell? _ = _ := c0
  have c1' : w.drew.cell? _ = _ := c1
  have d0' : w.drew.cell? _ = _ := d0
  have d1' : w.drew.cell? _ = _ := d1
  clear b0 g0 c0 c1 d0 d1
  go_enter Try.func37, Try.ntmps37
  go_wp2
  refine wp_region_still_tail 16 (by kernel_rfl) (by kernel_rfl) ?_
  simp only [List.take_succ_cons, List.take_zero, List.drop_succ_cons, List.drop_zero]
  change wpStill Try.prog _ w.drew (fun a' => wpList Try.prog _ _ _ a' w.drew) _ _
  have e2 := Lib.hid (show w.drew = w.drewN 1 from rfl)
  generalize w.drew = w2 at *
  repeat still_step
  refine wpStill_nil ?_
  go_wp2_with fail
  refine (hc.out _).mono ?_
  rintro e w3 ⟨rfl, os, rfl⟩
  have e3 := Lib.hid (show grow w2 os = grow (w.drewN 1) os by rw [e2.out])
  go_wp2
  go_ret
  exact ⟨rfl, 1, os, e3.out⟩

end Go.Proofs.Ytnocdfmmhnnbeaa
