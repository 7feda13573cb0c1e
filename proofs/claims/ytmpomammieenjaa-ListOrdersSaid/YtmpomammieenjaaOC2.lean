/-
  Several texts of this seat in one file, each in the namespace again; no claim stands here.
-/
import Derived.StillTailTactics
import Derived.StillTactics
import Derived.Test.YtmpomammieenjaaOB2
import Derived.Test.YtmpomammieenjaaOU
import Derived.Test.YtmpomammieenjaaOT
import Derived.Test.YtmpomammieenjaaOA2
namespace Go.Proofs.Ytmpomammieenjaa
open Go.ChangeShapes Go.WideShapes Go.ChangeAt Go.RowKit Go.Sort
set_option linter.unusedVariables false
set_option linter.unusedSimpArgs false
attribute [local go_sem] World.cell?_alloc_some

def NdB (W : World) (b cap : Nat) (ns : List Nd) : Prop := ∃ cur, W.heap[b]? = some (.cells cur 154 (0, 0)) ∧ cur.size = cap * 6 ∧ ns.length ≤ cap ∧ cur.toList.take (ns.length * 6) = flat encN ns
theorem NdB.lt {W : World} {b cap : Nat} {ns : List Nd} (h : NdB W b cap ns) : b < W.heap.size := by
  obtain ⟨cur, h1, _⟩ := h
  exact (Array.getElem?_eq_some_iff.1 h1).1
theorem NdB.rx {W W' : World} {b cap p : Nat} {ns : List Nd} (h : NdB W b cap ns) (hx : RX p W W') (hne : b ≠ p) : NdB W' b cap ns := by
  obtain ⟨cur, h1, h2⟩ := h
  exact ⟨cur, hx.blk h1 hne, h2⟩
theorem NdB.ext {W W' : World} {b cap : Nat} {ns : List Nd} (h : NdB W b cap ns) (hx : Ext W W') : NdB W' b cap ns := by
  have hlt := h.lt
  obtain ⟨cur, h1, h2⟩ := h
  exact ⟨cur, (RowKit.Below.block hx b hlt).trans h1, h2⟩
theorem NdB.row {W : World} {b cap : Nat} {ns : List Nd} (h : NdB W b cap ns) : NdS W (some ⟨b, 0, none⟩) ns := fun h0 => by
  obtain ⟨cur, h1, h2, h3, h4⟩ := h
  refine ⟨b, 0, rfl, fun j u hu => ?_⟩
  rw [Nat.zero_add, cell_of_row W b j cur _ (0, 0) h1]
  rw [← h4, List.getElem?_take] at hu
  split at hu
  · simpa using hu
  · cases hu
theorem NdB.new (W : World) (x : Nd) : NdB (W.alloc (.cells #[.int .u32 x.id.1, .int .u32 x.id.2, .int .i64 x.on, .bool x.right, .int .i64 x.depth, .int .i64 x.far] 154)) W.heap.size 1 [x] := ⟨_, heap_alloc_new W _, rfl, Nat.le_refl _, rfl⟩
structure GrO (w0 W : World) (g b cap mb : Nat) (l : List It) (ns : List Nd) : Prop where
  ok : GrN l ns
  kn : knownI l = true
  box : W.heap[g]? = some (.cells #[.slice (some ⟨b, 0, none⟩) (l.length + 1) cap, .map (some mb)] 151 (0, 0))
  nds : NdB W b cap ns
  map : MapS W mb (numM l)
  lowG : w0.heap.size ≤ g
  lowB : w0.heap.size ≤ b
  lowM : w0.heap.size ≤ mb
  gb : g ≠ b
  gm : g ≠ mb
  bm : b ≠ mb
theorem GrO.cells {w0 W : World} {g b cap mb : Nat} {l : List It} {ns : List Nd} (h : GrO w0 W g b cap mb l ns) : W.cell? ⟨g, 0, none⟩ = some (.slice (some ⟨b, 0, none⟩) (l.length + 1) cap) ∧ W.cell? ⟨g, 1, none⟩ = some (.map (some mb)) :=
  ⟨by rw [cell_of_row W g 0 _ _ _ h.box]; rfl, by rw [cell_of_row W g 1 _ _ _ h.box]; rfl⟩
theorem GrO.room {w0 W : World} {g b cap mb : Nat} {l : List It} {ns : List Nd} (h : GrO w0 W g b cap mb l ns) : l.length + 1 ≤ cap := by
  obtain ⟨cur, h1, h2, h3, h4⟩ := h.nds
  rw [h.ok.len] at h3; exact h3
theorem GrO.read {w0 W : World} {g b cap mb : Nat} {l : List It} {ns : List Nd} (h : GrO w0 W g b cap mb l ns) : GrS W g l ns :=
  ⟨h.ok, h.kn, b, 0, cap, mb, h.cells.1, h.cells.2, h.room, h.nds.row, h.map⟩
theorem GrO.ext {w0 W W' : World} {g b cap mb : Nat} {l : List It} {ns : List Nd} (h : GrO w0 W g b cap mb l ns) (hx : Ext W W') : GrO w0 W' g b cap mb l ns :=
  ⟨h.ok, h.kn, (RowKit.Below.block hx g (Array.getElem?_eq_some_iff.1 h.box).1).trans h.box, h.nds.ext hx, h.map.ext hx, h.lowG, h.lowB, h.lowM, h.gb, h.gm, h.bm⟩

theorem setRow_rx (W : World) (b : Nat) (cs : Array Value) : RX b W (W.setRow b cs) := ⟨rfl, rfl, rfl, by simp, fun k _ hk => setRow_other W b k _ (fun e => hk (by rw [e]))⟩
set_option maxRecDepth 100000 in
theorem app_N (w : World) (ty : TypeId) (b cap N : Nat) (ns : List Nd) (hN : ns.length = N) (hB : NdB w b cap ns) (hroom : N + 1 ≤ cap) (q c : Nat) (nd : Nd) (hr : NdS w (some ⟨q, 0, none⟩) [nd]) :
    ∃ w', (Builtin.append_ #[148, 148] ty #[.slice (some ⟨b, 0, none⟩) N cap, .slice (some ⟨q, 0, none⟩) 1 c]).run Try.prog w = .ok (.slice (some ⟨b, 0, none⟩) (N + 1) cap) w' ∧ NdB w' b cap (ns ++ [nd]) ∧ RX b w w' := by
  obtain ⟨i, hi, hz0, hz1, hz2⟩ := info_parts infoN
  obtain ⟨cur, h1, h2, h3, h4⟩ := hB
  subst hN
  have hnl : (flat encN [nd]).length = 1 * i.size := by rw [flat_len encN_len, hz1]; rfl
  have hfit : ns.length * i.size + (flat encN [nd]).length ≤ cur.size := by rw [hnl, hz1, h2]; omega
  have hrun := run_append_room (P := Try.prog) w 148 ty 154 i Try.underlying148 hi b ns.length cap cur h1 ⟨q, 0, none⟩ 1 c (flat encN [nd]) hnl (fun j u hu => by
    obtain ⟨b', o', e, hc⟩ := hr (by rw [flat_len encN_len]; exact Nat.succ_pos _)
    injection e with e
    injection e with e1 e2 e3
    subst e1
    subst e2
    rw [add_at]
    exact hc j u hu) (flat_one_cell encN_one [nd]) hroom hfit
  refine ⟨_, hrun, ⟨_, setRow_heap w b cur _ _ _ h1, ?_, ?_, ?_⟩, setRow_rx w b _⟩
  · simp only [List.size_toArray, List.length_append, List.length_take, List.length_drop, Array.length_toList]
    rw [hz1] at *
    rw [hnl] at *
    omega
  · rw [List.length_append]; exact hroom
  · rw [flat_append, hz1, h4, List.length_append]
    have : (flat encN ns ++ flat encN [nd]).length = (ns.length + [nd].length) * 6 := by rw [List.length_append, flat_len encN_len, flat_len encN_len, Nat.add_mul]
    rw [← this]
    exact List.take_left
structure RB (b n : Nat) (W W' : World) : Prop where
  rx : RX b W W'
  low : ∀ j x, j < n → W.cell? ⟨b, j, none⟩ = some x → W'.cell? ⟨b, j, none⟩ = some x
theorem RB.trans {b n : Nat} {x y z : World} (h : RB b n x y) (k : RB b n y z) : RB b n x z := ⟨h.rx.trans k.rx, fun j u hj hu => k.low j u hj (h.low j u hj hu)⟩
theorem RB.ext {b n : Nat} {x y : World} (h : Ext x y) : RB b n x y := ⟨RX.ext h, fun j u _ hu => h.keep hu⟩
theorem RB.of {b cap n : Nat} {W W' : World} {ns r : List Nd} (hx : RX b W W') (h : NdB W b cap ns) (h' : NdB W' b cap (ns ++ r)) (hn : n = ns.length * 6) : RB b n W W' := by
  refine ⟨hx, fun j x hj hc => ?_⟩
  subst hn
  obtain ⟨cur, h1, h2, h3, h4⟩ := h
  obtain ⟨cur', h1', h2', h3', h4'⟩ := h'
  rw [cell_of_row W b j cur _ (0, 0) h1] at hc
  rw [cell_of_row W' b j cur' _ (0, 0) h1']
  have e1 : (cur.toList.take (ns.length * 6))[j]? = some x := by rw [List.getElem?_take, if_pos hj]; simpa using hc
  have e2 : (cur'.toList.take ((ns ++ r).length * 6))[j]? = some x := by
    rw [h4', flat_append, List.getElem?_append_left (by rw [flat_len encN_len]; exact hj), ← h4]; exact e1
  rw [List.getElem?_take] at e2
  split at e2
  · simpa using e2
  · cases e2
theorem RB.row {b n : Nat} {W W' : World} {ns : List Nd} (hx : RB b n W W') (h : NdS W (some ⟨b, 0, none⟩) ns) (hn : ns.length * 6 ≤ n) : NdS W' (some ⟨b, 0, none⟩) ns := fun h0 => by
  obtain ⟨b', o', e, hc⟩ := h h0
  injection e with e
  injection e with e1 e2 e3
  subst e1
  subst e2
  refine ⟨b, 0, rfl, fun j u hu => ?_⟩
  have hj := lt_of_get hu
  rw [flat_len encN_len] at hj
  have := hc j u hu
  rw [Nat.zero_add] at this ⊢
  exact hx.low j u (by omega) this
theorem softC_val {Rel : World → World → Prop} {Pre Post : World → Prop} {P : Program} {ops : Array Oper} {tab : SoftTab} {Q : Exit → Act → World → Prop} {a0 : Act} {w : World} {k : Nat} {o : Oper} (d : Nat) (R : Told) (hk : ops[k]? = some o) (hd : o.dst = some d) (htab : tab[k]? = some (d, R))
    (h : ∀ (a : Act) (W : World), Rel w W → Pre W → (∀ t, t ∉ tab.map (·.1) → a.tmps.getD t undef = a0.tmps.getD t undef) → (∀ e ∈ o.after.toList, Region.binds .any e = true → ∀ (d : Nat) (R : Told), tab[e.on]? = some (d, R) → R (a.tmps.getD d undef) W ∧ d < a.tmps.size) →
      Region.wanted o (yielded ops a.tmps) = true ∧ ∃ v W', (execOp a.eval o).run P W = .ok (.value v) W' ∧ R v W' ∧ Rel W W' ∧ Post W') : SoftStepC Rel Pre Post P ops tab Q a0 w k o := by
  intro a W hx hpre hout hdep d' R' ht
  rw [htab] at ht
  injection ht with ht
  injection ht with e1 e2
  subst e1
  subst e2
  obtain ⟨hw, v, W', hrun, hR, hE, hP⟩ := h a W hx hpre hout hdep
  unfold wpOp
  simp only [hk]
  rw [if_pos hw]
  refine Or.inl ?_
  unfold Oper.wp
  rw [hrun, Oper.upon_value, hd]
  exact ⟨v, rfl, hR, hE, hP⟩

def uad (g b K cap on pb dp fr : Nat) (c k : Int) (rr : Bool) : SoftTab := [(27, fun z9 W => z9 = .pointer (some ⟨g, 0, none⟩)),
  (28, fun z9 W => z9 = .pointer (some ⟨g, 0, none⟩)),
  (29, fun z9 W => z9 = .pointer (some ⟨g, 0, none⟩)),
  (30, fun z9 W => z9 = .pointer (some ⟨g, 0, none⟩)),
  (31, fun z9 W => z9 = .slice (some ⟨b, 0, none⟩) K cap),
  (32, fun z9 W => z9 = .agg #[.int .u32 c, .int .u32 k]),
  (33, fun z9 W => z9 = Vi (on : Int)),
  (34, fun z9 W => z9 = .pointer (some ⟨pb, 2, none⟩)),
  (35, fun z9 W => z9 = .bool rr),
  (36, fun z9 W => z9 = .pointer (some ⟨g, 0, none⟩)),
  (37, fun z9 W => z9 = .pointer (some ⟨g, 0, none⟩)),
  (38, fun z9 W => z9 = .pointer (some ⟨g, 0, none⟩)),
  (39, fun z9 W => z9 = .slice (some ⟨b, 0, none⟩) K cap),
  (40, fun z9 W => z9 = Vi (on : Int)),
  (41, fun z9 W => z9 = .pointer (some ⟨b, on * 6, none⟩)),
  (42, fun z9 W => z9 = .pointer (some ⟨b, on * 6 + 4, none⟩)),
  (43, fun z9 W => z9 = Vi (dp : Int)),
  (44, fun z9 W => z9 = Vi ((dp + 1 : Nat) : Int)),
  (45, fun z9 W => z9 = .pointer (some ⟨g, 0, none⟩)),
  (46, fun z9 W => z9 = Vi (on : Int)),
  (47, fun z9 W => z9 = Vi (fr : Int)),
  (48, fun z9 W => z9 = ndv c k (on : Int) rr ((dp + 1 : Nat) : Int) (fr : Int)),
  (49, fun z9 W => ∃ q, z9 = .slice (some ⟨q, 0, none⟩) 1 1 ∧ q ≠ b ∧ NdB W q 1 [⟨(c, k), on, rr, dp + 1, fr⟩]),
  (50, fun z9 W => z9 = .slice (some ⟨b, 0, none⟩) (K + 1) cap)]
theorem uad_mono (g b K cap on pb dp fr : Nat) (c k : Int) (rr : Bool) : SoftMonoR (RB b (K * 6)) (uad g b K cap on pb dp fr c k rr) := by
  intro p hp v W W' h hx
  simp only [uad, List.mem_cons, List.not_mem_nil, or_false] at hp
  rcases hp with rfl | rfl | rfl | rfl | rfl | rfl | rfl | rfl | rfl | rfl | rfl | rfl | rfl | rfl | rfl | rfl | rfl | rfl | rfl | rfl | rfl | rfl | rfl | rfl
  all_goals first
    | exact h
    | exact (by obtain ⟨q, h1, h2, h3⟩ := h; exact ⟨q, h1, h2, h3.rx hx.rx h2⟩)

set_option maxRecDepth 100000 in
set_option maxHeartbeats 16000000 in
theorem add_any (g b cap mb : Nat) (l : List It) (ns : List Nd) (x : It) (w0 w : World) (h : GrO w0 w g b cap mb l ns) (hk : knownI (l ++ [x]) = true) (hx0 : Ext w0 w) (hcap : l.length + 2 ≤ cap) (hb : l.length ≤ 1000000000000000) :
    Calls Try.prog 98 #[.pointer (some ⟨g, 0, none⟩), idv x.c x.k, hgv (hgP l x)] w fun e w' => e = .returned (.tuple #[]) ∧ (∃ ns', GrO w0 w' g b cap mb (l ++ [x]) ns') ∧ Ext w0 w' := by
  have hk2 := hk
  rw [known_snoc, Bool.and_eq_true] at hk2
  obtain ⟨hx0c, hxn, _, _⟩ := knownX_spec hk2.2
  have hnone := Lib.hid (numM_none (a := (x.c, x.k)) hxn)
  have hc0 : (x.c == 0) = false := by simpa using hx0c
  obtain ⟨K, hK⟩ : ∃ K, l.length + 1 = K := ⟨_, rfl⟩
  have hon := numI_le l (hgP l x).on
  obtain ⟨nd, hnd⟩ := h.ok.get hon
  obtain ⟨d1, d2, d3, _⟩ := h.ok.deep _ nd hnd
  have b1 := pth_len_le h.kn hon
  obtain ⟨f1, fq, f2⟩ := h.ok.farF_is hon
  have hsn := Lib.hid (h.ok.snoc hk f1 f2 hnd)
  have hfarc := Lib.hid (fun (W : World) (hW : GrT W g l ns) => farFrom_any g l ns (numI l (hgP l x).on) W hW hon hb)
  have hnlen := Lib.hid h.ok.len
  have hnum := Lib.hid (numM_snoc l x)
  have hi1 : (0 : Int) ≤ (numI l (hgP l x).on : Int) := by omega
  have hi2 : (numI l (hgP l x).on : Int) < (K : Int) := by omega
  have hdp : nd.depth + 1 ≤ 1000000000000001 := by omega
  have hw1 : wrap64 ((nd.depth : Int) + 1) = ((nd.depth + 1 : Nat) : Int) := by rw [w64_in (by omega) (by omega)]; rfl
  have hoff := h.nds.row.at hnd
  have hdR := Lib.hid (fun W (hW : Ext w W) => (h.nds.ext hW).row.at hnd)
  have hlook := Lib.hid (fun W (hW : Ext w W) => (h.map.ext hW).num (hgP l x).on.1 (hgP l x).on.2)
  replace h := Lib.hid h
  have hKl := Lib.hid hK
  clear b1 d1 d2 d3 f1 f2 hnd hon hoff hk2 hxn hx0c
  generalize hgP l x = R at *
  obtain ⟨⟨ra, rb⟩, rr⟩ := R
  simp only at hsn hfarc hi1 hi2 hdR hlook
  generalize farF ns (numI l (ra, rb)) = fr at *
  generalize numI l (ra, rb) = on at *
  obtain ⟨dp, hdpe⟩ : ∃ d, nd.depth = d := ⟨_, rfl⟩
  rw [hdpe] at hdp hw1 hsn
  replace hdpe := Lib.hid hdpe
  have x0 := ((Ext.refl w).alloc (.cells #[.int .u32 x.c, .int .u32 x.k] 41)).alloc (.cells #[.int .u32 ra, .int .u32 rb, .bool rr] 114)
  obtain ⟨w1, hw1e⟩ : ∃ w1, (w.alloc (.cells #[.int .u32 x.c, .int .u32 x.k] 41)).alloc (.cells #[.int .u32 ra, .int .u32 rb, .bool rr] 114) = w1 := ⟨_, rfl⟩
  rw [hw1e] at x0
  have a0 : w1.cell? ⟨w.heap.size, 0, none⟩ = some (Vu x.c) := by rw [← hw1e]; simp [go_sem]
  have a1 : w1.cell? ⟨w.heap.size, 1, none⟩ = some (Vu x.k) := by rw [← hw1e]; simp [go_sem]
  have a2 : w1.cell? ⟨w.heap.size + 1, 0, none⟩ = some (Vu ra) := by rw [← hw1e]; simp [go_sem]
  have a3 : w1.cell? ⟨w.heap.size + 1, 1, none⟩ = some (Vu rb) := by rw [← hw1e]; simp [go_sem]
  have a4 : w1.cell? ⟨w.heap.size + 1, 2, none⟩ = some (.bool rr) := by rw [← hw1e]; simp [go_sem]
  have g0 := x0.keep h.out.cells.1
  have g1 := x0.keep h.out.cells.2
  rw [hK] at g0
  have hl1 := fun k => hlook.out (w1.drewN k) (x0.drewN k)
  replace hw1e := Lib.hid hw1e
  replace x0 := Lib.hid x0
  clear hK
  have hmp : mb < w.heap.size := h.out.map.lt
  have hbp : b < w.heap.size := h.out.nds.lt
  have hgp : g < w.heap.size := (Array.getElem?_eq_some_iff.1 h.out.box).1
  go_enter Try.func98, Try.ntmps98
  go_wp2
  rw [hw1e.out]
  clear hw1e hlook
  generalize w.heap.size = pa at *
  obtain ⟨pb, hpb⟩ : ∃ pb, pa + 1 = pb := ⟨_, rfl⟩
  rw [hpb] at a2 a3 a4 ⊢
  have hmb' : mb < pb := by omega
  have hbp2 : b < pb := by omega
  clear hpb
  go_quiet (fail)
  have xd := (Ext.refl w1).drewN nq
  replace x0 := Lib.hid (x0.out.trans xd)
  replace a0 := xd.keep a0
  replace a1 := xd.keep a1
  replace a4 := xd.keep a4
  replace g0 := xd.keep g0
  replace g1 := xd.keep g1
  clear a2 a3 hl1 xd
  generalize w1.drewN nq = w2 at *
  clear w1
  go_wp2_with fail
  refine (none_any _ _ _).mono ?_
  rintro e w3 ⟨rfl, x3⟩
  replace a0 := x3.keep a0
  replace a1 := x3.keep a1
  replace a4 := x3.keep a4
  replace g0 := x3.keep g0
  replace g1 := x3.keep g1
  replace x0 := Lib.hid (x0.out.trans x3)
  clear x3 w2
  go_wp2
  refine wp_region_still_tail 10 (by kernel_rfl) (by kernel_rfl) ?_
  simp only [List.take_succ_cons, List.take_zero, List.drop_succ_cons, List.drop_zero]
  have xd := (Ext.refl w3).drew
  replace x0 := Lib.hid (x0.out.trans xd)
  replace a0 := xd.keep a0
  replace a1 := xd.keep a1
  replace a4 := xd.keep a4
  replace g0 := xd.keep g0
  replace g1 := xd.keep g1
  clear xd
  change wpStill Try.prog _ w3.drew (fun a' => wpList Try.prog _ _ _ a' w3.drew) _ _
  generalize w3.drew = w4 at *
  clear w3
  repeat still_step
  refine wpStill_nil ?_
  refine wpList_store_map _ rfl _ _ _ _ _ rfl Try.underlying149 mb (numM l) rfl (h.out.map.ext x0.out) x.c x.k (Vi (K : Int)) rfl rfl hnone.out ?_
  intro w5 m5 g5
  have hgm := h.out.gm
  have hbm := h.out.bm
  have hgb := h.out.gb
  have r5 : RX mb w4 w5 := g5
  have hroom : K + 1 ≤ cap := by rw [← hKl.out]; omega
  have hw2 : IntKind.i64.wrap ((dp : Int) + 1) = (dp : Int) + 1 := by rw [IntWalk.i64_left]; exact w64_in (by omega) (by omega)
  have hon4 : on * 6 + 4 < K * 6 := by omega
  replace a0 := r5.cell a0 (by omega)
  replace a1 := r5.cell a1 (by omega)
  replace a4 := r5.cell a4 (by omega)
  replace g0 := r5.cell g0 hgm
  replace g1 := r5.cell g1 hgm
  have hh := h.out.ext x0.out
  have nb5 := Lib.hid (hh.nds.rx r5 hbm)
  have d4 : w5.cell? ⟨b, on * 6 + 4, none⟩ = some (Vi (dp : Int)) := by
    have := r5.cell (hdR.out _ x0.out).c4 hbm
    rw [Nat.zero_add, hdpe.out] at this
    exact this
  have hT5 : GrT w5 g l ns := ⟨hh.ok, hh.kn, b, 0, cap, by rw [hKl.out]; exact g0, hh.room, nb5.out.row⟩
  have hfar := Lib.hid (fun (W : World) (hW : RB b (K * 6) w5 W) => hfarc.out W ⟨hT5.ok, hT5.kn, b, 0, cap, by rw [hKl.out]; exact hW.rx.cell g0 h.out.gb, hT5.cells.elim fun _ hh => hh.elim fun _ hh => hh.elim fun _ hh => by rw [hKl.out]; omega, hW.row nb5.out.row (by rw [hnlen.out, hKl.out]; exact Nat.le_refl _)⟩)
  have box5 := Lib.hid (r5.blk hh.box hgm)
  have m5' := Lib.hid (show MapS w5 mb (numM (l ++ [x])) by rw [hnum.out, hKl.out]; exact m5)
  have e5 := Lib.hid (RX.down (hx0.trans x0.out) h.out.lowM r5)
  have hnl : Hid (ns.length = K) := Lib.hid (by rw [hnlen.out, hKl.out])
  clear m5 g5 r5 hh hT5 hfarc hdR x0 hnum w4
  have hgl := Lib.hid h.out.lowG
  have hbl := Lib.hid h.out.lowB
  have hml := Lib.hid h.out.lowM
  clear h hx0
  go_wp2_with fail
  generalize hcx : x.c = c at *
  generalize hkx : x.k = k at *
  refine wp_soft_frameP (RB b (K * 6)) 23 (fun W => NdB W b cap ns) (fun W => NdB W b cap (ns ++ [⟨(c, k), on, rr, dp + 1, fr⟩])) 24 (uad g b K cap on pb dp fr c k rr) (by kernel_rfl) (by kernel_rfl) (fun _ _ _ => RB.trans) (fun _ _ => RB.ext) (fun _ _ h hh => hh.ext h) (fun _ _ h hh => hh.ext h) (by omega) nb5.out rfl (by show List.Nodup [27, 28, 29, 30, 31, 32, 33, 34, 35, 36, 37, 38, 39, 40, 41, 42, 43, 44, 45, 46, 47, 48, 49, 50]; decide) (by show ∀ d ∈ [27, 28, 29, 30, 31, 32, 33, 34, 35, 36, 37, 38, 39, 40, 41, 42, 43, 44, 45, 46, 47, 48, 49, 50], d < 53; decide) (uad_mono g b K cap on pb dp fr c k rr) ?_ ⟨?_, ?_, ?_, ?_, ?_, ?_, ?_, ?_, ?_, ?_, ?_, ?_, ?_, ?_, ?_, ?_, ?_, ?_, ?_, ?_, ?_, ?_, ?_, ?_, trivial⟩
  · intro W vs hT hR hPost
    match vs, hT with
    | [v0, v1, v2, v3, v4, v5, v6, v7, v8, v9, v10, v11, v12, v13, v14, v15, v16, v17, v18, v19, v20, v21, v22, v23], ⟨e0, e1, e2, e3, e4, e5, e6, e7, e8, e9, e10, e11, e12, e13, e14, e15, e16, e17, e18, e19, e20, e21, e22, e23, _⟩ =>
      simp only [uad, List.map_cons, List.map_nil, List.zip_cons_cons, List.zip_nil_left, putAll, List.setIfInBounds_toArray, List.set_cons_zero, List.set_cons_succ, List.drop_succ_cons, List.drop_zero]
      simp only at e0 e1 e2 e3 e4 e5 e6 e7 e8 e9 e10 e11 e12 e13 e14 e15 e16 e17 e18 e19 e20 e21 e23
      obtain ⟨q22, e22, h22⟩ := e22
      rw [e0, e1, e2, e3, e4, e5, e6, e7, e8, e9, e10, e11, e12, e13, e14, e15, e16, e17, e18, e19, e20, e21, e22, e23]
      clear e0 e1 e2 e3 e4 e5 e6 e7 e8 e9 e10 e11 e12 e13 e14 e15 e16 e17 e18 e19 e20 e21 e22 e23 v0 v1 v2 v3 v4 v5 v6 v7 v8 v9 v10 v11 v12 v13 v14 v15 v16 v17 v18 v19 v20 v21 v22 v23
      have box6 := hR.rx.blk box5.out hgb
      have m6 : MapS W mb (numM (l ++ [x])) := m5'.out.kept hR.rx (fun e => hbm (by injection e with e; exact e.symm))
      have e6 := Lib.hid (RX.down e5.out hbl.out hR.rx)
      have f6 := frozen_of_row W g 0 _ _ box6
      have r7 : RX g W (W.setCell ⟨g, 0, none⟩ (.slice (some ⟨b, 0, none⟩) (K + 1) cap)) := RX.set (RX.refl g W) 0 _ (.inr rfl)
      have box7 : (W.setCell ⟨g, 0, none⟩ (.slice (some ⟨b, 0, none⟩) (K + 1) cap)).heap[g]? = some (.cells #[.slice (some ⟨b, 0, none⟩) (K + 1) cap, .map (some mb)] 151 (0, 0)) := heap_setCell_same _ _ 0 _ _ _ box6
      have nb7 := hPost.rx r7 (fun e => hgb e.symm)
      have m7 := m6.kept r7 (fun e => hgm (by injection e with e; exact e.symm))
      have e7 := Lib.hid (RX.down e6.out hgl.out r7)
      have hfin := Lib.hid (show GrO w0 (W.setCell ⟨g, 0, none⟩ (.slice (some ⟨b, 0, none⟩) (K + 1) cap)) g b cap mb (l ++ [x]) (ns ++ [⟨(c, k), on, rr, dp + 1, fr⟩]) from
        ⟨by rw [← hcx, ← hkx]; exact hsn.out, hk, by rw [List.length_append, List.length_singleton, hKl.out]; exact box7, nb7, m7, hgl.out, hbl.out, hml.out, hgb, hgm, hbm⟩)
      have g06 : W.cell? ⟨g, 0, none⟩ = some (.slice (some ⟨b, 0, none⟩) (l.length + 1) cap) := by rw [cell_of_row W g 0 _ _ _ box6]; rfl
      clear hPost r7 box6 m6 e6 box7 nb7 m7 hT h22
      go_wp2
      exact bodyPost_end (v := .tuple #[]) (by simp [results, Try.results98, go_sem]) rfl ⟨rfl, ⟨_, hfin.out⟩, e7.out⟩
  · refine softP_val 27 _ (by kernel_rfl) rfl rfl ?_
    intro a W hx hout hdep
    have ev0 : a.tmps[0]?.getD undef = .pointer (some ⟨g, 0, none⟩) := by rw [← Array.getD_eq_getD_getElem?]; exact hout 0 (by show 0 ∉ [27, 28, 29, 30, 31, 32, 33, 34, 35, 36, 37, 38, 39, 40, 41, 42, 43, 44, 45, 46, 47, 48, 49, 50]; decide)
    refine ⟨rfl, .pointer (some ⟨g, 0, none⟩), W, ?_, rfl, Ext.refl _⟩
    simp [ev0, execOp, go_sem]
  · refine softP_val 28 _ (by kernel_rfl) rfl rfl ?_
    intro a W hx hout hdep
    have ev0 : a.tmps[0]?.getD undef = .pointer (some ⟨g, 0, none⟩) := by rw [← Array.getD_eq_getD_getElem?]; exact hout 0 (by show 0 ∉ [27, 28, 29, 30, 31, 32, 33, 34, 35, 36, 37, 38, 39, 40, 41, 42, 43, 44, 45, 46, 47, 48, 49, 50]; decide)
    refine ⟨rfl, .pointer (some ⟨g, 0, none⟩), W, ?_, rfl, Ext.refl _⟩
    simp [ev0, execOp, go_sem]
  · refine softP_val 29 _ (by kernel_rfl) rfl rfl ?_
    intro a W hx hout hdep
    have ev28 : a.tmps[28]?.getD undef = .pointer (some ⟨g, 0, none⟩) := by rw [← Array.getD_eq_getD_getElem?]; exact (hdep ⟨1, .data⟩ (by simp) rfl 28 _ rfl).1
    refine ⟨rfl, .pointer (some ⟨g, 0, none⟩), W, ?_, rfl, Ext.refl _⟩
    simp [ev28, execOp, go_sem]
  · refine softP_val 30 _ (by kernel_rfl) rfl rfl ?_
    intro a W hx hout hdep
    have ev29 : a.tmps[29]?.getD undef = .pointer (some ⟨g, 0, none⟩) := by rw [← Array.getD_eq_getD_getElem?]; exact (hdep ⟨2, .data⟩ (by simp) rfl 29 _ rfl).1
    refine ⟨rfl, .pointer (some ⟨g, 0, none⟩), W, ?_, rfl, Ext.refl _⟩
    simp [ev29, execOp, go_sem]
  · refine softP_val 31 _ (by kernel_rfl) rfl rfl ?_
    intro a W hx hout hdep
    have ev30 : a.tmps[30]?.getD undef = .pointer (some ⟨g, 0, none⟩) := by rw [← Array.getD_eq_getD_getElem?]; exact (hdep ⟨3, .data⟩ (by simp) rfl 30 _ rfl).1
    have q0 := hx.rx.cell g0 hgb
    refine ⟨rfl, .slice (some ⟨b, 0, none⟩) K cap, W, ?_, rfl, Ext.refl _⟩
    simp [ev30, q0, execOp, go_sem]
  · refine softP_val 32 _ (by kernel_rfl) rfl rfl ?_
    intro a W hx hout hdep
    have ev4 : a.tmps[4]?.getD undef = .pointer (some ⟨pa, 0, none⟩) := by rw [← Array.getD_eq_getD_getElem?]; exact hout 4 (by show 4 ∉ [27, 28, 29, 30, 31, 32, 33, 34, 35, 36, 37, 38, 39, 40, 41, 42, 43, 44, 45, 46, 47, 48, 49, 50]; decide)
    have q0 := hx.rx.cell a0 (by omega)
    have q1 := hx.rx.cell a1 (by omega)
    refine ⟨rfl, .agg #[.int .u32 c, .int .u32 k], W, ?_, rfl, Ext.refl _⟩
    simp [ev4, q0, q1, execOp, go_sem]
  · refine softP_val 33 _ (by kernel_rfl) rfl rfl ?_
    intro a W hx hout hdep
    have ev6 : a.tmps[6]?.getD undef = Vi (on : Int) := by rw [← Array.getD_eq_getD_getElem?]; exact hout 6 (by show 6 ∉ [27, 28, 29, 30, 31, 32, 33, 34, 35, 36, 37, 38, 39, 40, 41, 42, 43, 44, 45, 46, 47, 48, 49, 50]; decide)
    refine ⟨rfl, Vi (on : Int), W, ?_, rfl, Ext.refl _⟩
    simp [ev6, execOp, go_sem]
  · refine softP_val 34 _ (by kernel_rfl) rfl rfl ?_
    intro a W hx hout hdep
    have ev5 : a.tmps[5]?.getD undef = .pointer (some ⟨pb, 0, none⟩) := by rw [← Array.getD_eq_getD_getElem?]; exact hout 5 (by show 5 ∉ [27, 28, 29, 30, 31, 32, 33, 34, 35, 36, 37, 38, 39, 40, 41, 42, 43, 44, 45, 46, 47, 48, 49, 50]; decide)
    refine ⟨rfl, .pointer (some ⟨pb, 2, none⟩), W, ?_, rfl, Ext.refl _⟩
    simp [ev5, execOp, go_sem]
  · refine softP_val 35 _ (by kernel_rfl) rfl rfl ?_
    intro a W hx hout hdep
    have ev34 : a.tmps[34]?.getD undef = .pointer (some ⟨pb, 2, none⟩) := by rw [← Array.getD_eq_getD_getElem?]; exact (hdep ⟨7, .data⟩ (by simp) rfl 34 _ rfl).1
    have q0 := hx.rx.cell a4 (by omega)
    refine ⟨rfl, .bool rr, W, ?_, rfl, Ext.refl _⟩
    simp [ev34, q0, execOp, go_sem]
  · refine softP_val 36 _ (by kernel_rfl) rfl rfl ?_
    intro a W hx hout hdep
    have ev0 : a.tmps[0]?.getD undef = .pointer (some ⟨g, 0, none⟩) := by rw [← Array.getD_eq_getD_getElem?]; exact hout 0 (by show 0 ∉ [27, 28, 29, 30, 31, 32, 33, 34, 35, 36, 37, 38, 39, 40, 41, 42, 43, 44, 45, 46, 47, 48, 49, 50]; decide)
    refine ⟨rfl, .pointer (some ⟨g, 0, none⟩), W, ?_, rfl, Ext.refl _⟩
    simp [ev0, execOp, go_sem]
  · refine softP_val 37 _ (by kernel_rfl) rfl rfl ?_
    intro a W hx hout hdep
    have ev36 : a.tmps[36]?.getD undef = .pointer (some ⟨g, 0, none⟩) := by rw [← Array.getD_eq_getD_getElem?]; exact (hdep ⟨9, .data⟩ (by simp) rfl 36 _ rfl).1
    refine ⟨rfl, .pointer (some ⟨g, 0, none⟩), W, ?_, rfl, Ext.refl _⟩
    simp [ev36, execOp, go_sem]
  · refine softP_val 38 _ (by kernel_rfl) rfl rfl ?_
    intro a W hx hout hdep
    have ev37 : a.tmps[37]?.getD undef = .pointer (some ⟨g, 0, none⟩) := by rw [← Array.getD_eq_getD_getElem?]; exact (hdep ⟨10, .data⟩ (by simp) rfl 37 _ rfl).1
    refine ⟨rfl, .pointer (some ⟨g, 0, none⟩), W, ?_, rfl, Ext.refl _⟩
    simp [ev37, execOp, go_sem]
  · refine softP_val 39 _ (by kernel_rfl) rfl rfl ?_
    intro a W hx hout hdep
    have ev38 : a.tmps[38]?.getD undef = .pointer (some ⟨g, 0, none⟩) := by rw [← Array.getD_eq_getD_getElem?]; exact (hdep ⟨11, .data⟩ (by simp) rfl 38 _ rfl).1
    have q0 := hx.rx.cell g0 hgb
    refine ⟨rfl, .slice (some ⟨b, 0, none⟩) K cap, W, ?_, rfl, Ext.refl _⟩
    simp [ev38, q0, execOp, go_sem]
  · refine softP_val 40 _ (by kernel_rfl) rfl rfl ?_
    intro a W hx hout hdep
    have ev6 : a.tmps[6]?.getD undef = Vi (on : Int) := by rw [← Array.getD_eq_getD_getElem?]; exact hout 6 (by show 6 ∉ [27, 28, 29, 30, 31, 32, 33, 34, 35, 36, 37, 38, 39, 40, 41, 42, 43, 44, 45, 46, 47, 48, 49, 50]; decide)
    refine ⟨rfl, Vi (on : Int), W, ?_, rfl, Ext.refl _⟩
    simp [ev6, execOp, go_sem]
  · refine softP_val 41 _ (by kernel_rfl) rfl rfl ?_
    intro a W hx hout hdep
    have ev39 : a.tmps[39]?.getD undef = .slice (some ⟨b, 0, none⟩) K cap := by rw [← Array.getD_eq_getD_getElem?]; exact (hdep ⟨12, .data⟩ (by simp) rfl 39 _ rfl).1
    have ev40 : a.tmps[40]?.getD undef = Vi (on : Int) := by rw [← Array.getD_eq_getD_getElem?]; exact (hdep ⟨13, .data⟩ (by simp) rfl 40 _ rfl).1
    refine ⟨rfl, .pointer (some ⟨b, on * 6, none⟩), W, ?_, rfl, Ext.refl _⟩
    simp [ev39, ev40, hi1, hi2, execOp, go_sem]
  · refine softP_val 42 _ (by kernel_rfl) rfl rfl ?_
    intro a W hx hout hdep
    have ev41 : a.tmps[41]?.getD undef = .pointer (some ⟨b, on * 6, none⟩) := by rw [← Array.getD_eq_getD_getElem?]; exact (hdep ⟨14, .data⟩ (by simp) rfl 41 _ rfl).1
    refine ⟨rfl, .pointer (some ⟨b, on * 6 + 4, none⟩), W, ?_, rfl, Ext.refl _⟩
    simp [ev41, execOp, go_sem]
  · refine softP_val 43 _ (by kernel_rfl) rfl rfl ?_
    intro a W hx hout hdep
    have ev42 : a.tmps[42]?.getD undef = .pointer (some ⟨b, on * 6 + 4, none⟩) := by rw [← Array.getD_eq_getD_getElem?]; exact (hdep ⟨15, .data⟩ (by simp) rfl 42 _ rfl).1
    have q0 := hx.low _ _ hon4 d4
    refine ⟨rfl, Vi (dp : Int), W, ?_, rfl, Ext.refl _⟩
    simp [ev42, q0, execOp, go_sem]
  · refine softP_val 44 _ (by kernel_rfl) rfl rfl ?_
    intro a W hx hout hdep
    have ev43 : a.tmps[43]?.getD undef = Vi (dp : Int) := by rw [← Array.getD_eq_getD_getElem?]; exact (hdep ⟨16, .data⟩ (by simp) rfl 43 _ rfl).1
    refine ⟨rfl, Vi ((dp + 1 : Nat) : Int), W, ?_, rfl, Ext.refl _⟩
    simp [ev43, hw1, hw2, execOp, go_sem]
  · refine softP_val 45 _ (by kernel_rfl) rfl rfl ?_
    intro a W hx hout hdep
    have ev0 : a.tmps[0]?.getD undef = .pointer (some ⟨g, 0, none⟩) := by rw [← Array.getD_eq_getD_getElem?]; exact hout 0 (by show 0 ∉ [27, 28, 29, 30, 31, 32, 33, 34, 35, 36, 37, 38, 39, 40, 41, 42, 43, 44, 45, 46, 47, 48, 49, 50]; decide)
    refine ⟨rfl, .pointer (some ⟨g, 0, none⟩), W, ?_, rfl, Ext.refl _⟩
    simp [ev0, execOp, go_sem]
  · refine softP_val 46 _ (by kernel_rfl) rfl rfl ?_
    intro a W hx hout hdep
    have ev6 : a.tmps[6]?.getD undef = Vi (on : Int) := by rw [← Array.getD_eq_getD_getElem?]; exact hout 6 (by show 6 ∉ [27, 28, 29, 30, 31, 32, 33, 34, 35, 36, 37, 38, 39, 40, 41, 42, 43, 44, 45, 46, 47, 48, 49, 50]; decide)
    refine ⟨rfl, Vi (on : Int), W, ?_, rfl, Ext.refl _⟩
    simp [ev6, execOp, go_sem]
  · refine softP_call 47 _ (by kernel_rfl) rfl rfl ?_
    intro a W hx hout hdep
    have ev45 : a.tmps[45]?.getD undef = .pointer (some ⟨g, 0, none⟩) := by rw [← Array.getD_eq_getD_getElem?]; exact (hdep ⟨18, .data⟩ (by simp) rfl 45 _ rfl).1
    have ev46 : a.tmps[46]?.getD undef = Vi (on : Int) := by rw [← Array.getD_eq_getD_getElem?]; exact (hdep ⟨19, .data⟩ (by simp) rfl 46 _ rfl).1
    refine ⟨rfl, 106, #[.pointer (some ⟨g, 0, none⟩), Vi (on : Int)], ?_, ?_⟩
    · simp [ev45, ev46, execOp, go_sem]
    · exact (hfar.out W hx).mono (by rintro e W1 ⟨rfl, h1⟩; exact ⟨_, rfl, rfl, h1⟩)
  · refine softP_val 48 _ (by kernel_rfl) rfl rfl ?_
    intro a W hx hout hdep
    have ev32 : a.tmps[32]?.getD undef = .agg #[.int .u32 c, .int .u32 k] := by rw [← Array.getD_eq_getD_getElem?]; exact (hdep ⟨5, .data⟩ (by simp) rfl 32 _ rfl).1
    have ev33 : a.tmps[33]?.getD undef = Vi (on : Int) := by rw [← Array.getD_eq_getD_getElem?]; exact (hdep ⟨6, .data⟩ (by simp) rfl 33 _ rfl).1
    have ev35 : a.tmps[35]?.getD undef = .bool rr := by rw [← Array.getD_eq_getD_getElem?]; exact (hdep ⟨8, .data⟩ (by simp) rfl 35 _ rfl).1
    have ev44 : a.tmps[44]?.getD undef = Vi ((dp + 1 : Nat) : Int) := by rw [← Array.getD_eq_getD_getElem?]; exact (hdep ⟨17, .data⟩ (by simp) rfl 44 _ rfl).1
    have ev47 : a.tmps[47]?.getD undef = Vi (fr : Int) := by rw [← Array.getD_eq_getD_getElem?]; exact (hdep ⟨20, .data⟩ (by simp) rfl 47 _ rfl).1
    refine ⟨rfl, ndv c k (on : Int) rr ((dp + 1 : Nat) : Int) (fr : Int), W, ?_, rfl, Ext.refl _⟩
    simp [ev32, ev33, ev35, ev44, ev47, execOp, go_sem]
  · refine softP_val 49 _ (by kernel_rfl) rfl rfl ?_
    intro a W hx hout hdep
    have ev48 : a.tmps[48]?.getD undef = ndv c k (on : Int) rr ((dp + 1 : Nat) : Int) (fr : Int) := by rw [← Array.getD_eq_getD_getElem?]; exact (hdep ⟨21, .data⟩ (by simp) rfl 48 _ rfl).1
    have hlt : b < W.heap.size := Nat.lt_of_lt_of_le nb5.out.lt hx.rx.size
    refine ⟨rfl, .slice (some ⟨W.heap.size, 0, none⟩) 1 1, _, ?_, ⟨_, rfl, by omega, NdB.new W ⟨(c, k), on, rr, dp + 1, fr⟩⟩, (Ext.refl W).alloc _⟩
    simp [ev48, execOp, go_sem]
  · refine softC_val 50 _ (by kernel_rfl) rfl rfl ?_
    intro a W hx hpre hout hdep
    have ev31 : a.tmps[31]?.getD undef = .slice (some ⟨b, 0, none⟩) K cap := by rw [← Array.getD_eq_getD_getElem?]; exact (hdep ⟨4, .data⟩ (by simp) rfl 31 _ rfl).1
    have tl49 := (hdep ⟨22, .data⟩ (by simp) rfl 49 _ rfl).1
    obtain ⟨q, hq1, hq2, hq3⟩ := tl49
    obtain ⟨W1, hr1, hr2, hr3⟩ := app_N W 148 b cap K ns hnl.out hpre hroom q 1 ⟨(c, k), on, rr, dp + 1, fr⟩ hq3.row
    refine ⟨rfl, .slice (some ⟨b, 0, none⟩) (K + 1) cap, W1, ?_, rfl, RB.of hr3 hpre hr2 (by rw [hnl.out]), hr2⟩
    rw [← Array.getD_eq_getD_getElem?] at ev31
    simp only [execOp, resolve, invoke, builtin, Sem.run_bind, Sem.run_pure, Result.andThen_ok, List.map_toArray, List.map_cons, List.map_nil, Act.eval, ev31, hq1, hr1]

end Go.Proofs.Ytmpomammieenjaa

namespace Go.Proofs.Ytmpomammieenjaa
open Go.ChangeShapes Go.WideShapes Go.ChangeAt Go.RowKit Go.Sort
set_option linter.unusedVariables false
set_option linter.unusedSimpArgs false
attribute [local go_sem] World.cell?_alloc_some

theorem made_take (z : Array Value) (n : Nat) (hz : z.size = 6) (hn : 1 ≤ n) : (madeCells z (n * 6)).toList.take 6 = z.toList := by
  have h6 : 6 ≤ n * 6 := by omega
  unfold madeCells
  rw [Array.toList_map, ← List.map_take, Array.toList_range, List.take_range, Nat.min_eq_left h6]
  obtain ⟨l⟩ := z
  match l, hz with
  | [a, b, c, d, e, f], _ => rfl
theorem make_nodes (n : Nat) (hn : n ≤ 5026338869800) (W : World) : (Instr.makeSlice 148 (.int .i64 1) (.int .i64 ((n + 1 : Nat) : Int))).run Try.prog W = .ok (.slice (some ⟨W.heap.size, 0, none⟩) 1 (n + 1)) (W.alloc (.cells (madeCells #[.int .u32 0, .int .u32 0, .int .i64 0, .bool false, .int .i64 0, .int .i64 0] ((n + 1) * 6)) 154)) ∧
    NdB (W.alloc (.cells (madeCells #[.int .u32 0, .int .u32 0, .int .i64 0, .bool false, .int .i64 0, .int .i64 0] ((n + 1) * 6)) 154)) W.heap.size (n + 1) [nd0] := by
  obtain ⟨i, hi, hz0, hz1, hz2⟩ := info_parts infoN
  have hr := run_make (P := Try.prog) W 148 154 i _ Try.underlying148 hi hz0 .i64 .i64 1 ((n + 1 : Nat) : Int) (by omega) (by omega) (by rw [hz2]; omega) (by omega)
  rw [hz1] at hr
  refine ⟨hr, _, heap_alloc_new W _, ?_, by simp, ?_⟩
  · rw [size_madeCells]
  · show (madeCells _ _).toList.take 6 = _
    rw [made_take _ _ rfl (by omega)]
    rfl
structure GrZ (s0 : Nat) (W : World) (g b cap mb : Nat) : Prop where
  box : W.heap[g]? = some (.cells #[.slice (some ⟨b, 0, none⟩) 1 cap, .map (some mb)] 151 (0, 0))
  nds : NdB W b cap [nd0]
  map : MapS W mb []
  lowG : s0 ≤ g
  lowB : s0 ≤ b
  lowM : s0 ≤ mb
  gb : g ≠ b
  gm : g ≠ mb
theorem GrZ.ext {s0 : Nat} {W W' : World} {g b cap mb : Nat} (h : GrZ s0 W g b cap mb) (hx : Ext W W') : GrZ s0 W' g b cap mb :=
  ⟨(RowKit.Below.block hx g (Array.getElem?_eq_some_iff.1 h.box).1).trans h.box, h.nds.ext hx, h.map.ext hx, h.lowG, h.lowB, h.lowM, h.gb, h.gm⟩
theorem GrZ.boxed {s0 : Nat} {W : World} {b cap mb : Nat} (h1 : NdB W b cap [nd0]) (h2 : MapS W mb []) (h3 : s0 ≤ W.heap.size) (h4 : s0 ≤ b) (h5 : s0 ≤ mb) :
    GrZ s0 (W.alloc (.cells #[.slice (some ⟨b, 0, none⟩) 1 cap, .map (some mb)] 151)) W.heap.size b cap mb :=
  ⟨heap_alloc_new W _, h1.ext ((Ext.refl _).alloc _), h2.ext ((Ext.refl _).alloc _), h3, h4, h5, by have := h1.lt; omega, by have := h2.lt; omega⟩
theorem GrZ.grown {w W : World} {g b cap mb : Nat} (h : GrZ w.heap.size W g b cap mb) : GrO w W g b cap mb [] [nd0] :=
  ⟨GrN.nil, rfl, h.box, h.nds, h.map, h.lowG, h.lowB, h.lowM, h.gb, h.gm, fun e => by
    obtain ⟨cur, h1, _⟩ := h.nds
    obtain ⟨es, clk, h2, _⟩ := h.map
    rw [e, h2] at h1
    cases h1⟩

def ugw1 (A : Option Addr) (n cap s0 : Nat) : SoftTab := [(6, fun z9 W => z9 = .slice A n cap),
  (7, fun z9 W => z9 = Vi (n : Int)),
  (8, fun z9 W => z9 = Vi ((n : Int) + 1)),
  (9, fun z9 W => ∃ q, z9 = .slice (some ⟨q, 0, none⟩) 1 (n + 1) ∧ s0 ≤ q ∧ NdB W q (n + 1) [nd0]),
  (10, fun z9 W => z9 = .slice A n cap),
  (11, fun z9 W => z9 = Vi (n : Int)),
  (12, fun z9 W => ∃ q, z9 = .map (some q) ∧ s0 ≤ q ∧ MapS W q []),
  (13, fun z9 W => ∃ q1 q2, z9 = .agg #[.slice (some ⟨q1, 0, none⟩) 1 (n + 1), .map (some q2)] ∧ s0 ≤ q1 ∧ s0 ≤ q2 ∧ NdB W q1 (n + 1) [nd0] ∧ MapS W q2 []),
  (14, fun z9 W => ∃ g q1 q2, z9 = .pointer (some ⟨g, 0, none⟩) ∧ GrZ s0 W g q1 (n + 1) q2)]
theorem ugw1_mono (A : Option Addr) (n cap s0 : Nat) (Rel : World → World → Prop) (hR : ∀ W W', Rel W W' → Ext W W') : SoftMonoR Rel (ugw1 A n cap s0) := by
  intro p hp v W W' h hx
  simp only [ugw1, List.mem_cons, List.not_mem_nil, or_false] at hp
  rcases hp with rfl | rfl | rfl | rfl | rfl | rfl | rfl | rfl | rfl
  all_goals first
    | exact h
    | (obtain ⟨q, h1, h2, h3⟩ := h
       exact ⟨q, h1, h2, h3.ext (hR _ _ hx)⟩)
    | (obtain ⟨q1, q2, h1, h2, h3, h4, h5⟩ := h
       exact ⟨q1, q2, h1, h2, h3, h4.ext (hR _ _ hx), h5.ext (hR _ _ hx)⟩)
    | (obtain ⟨g, q1, q2, h1, h2⟩ := h
       exact ⟨g, q1, q2, h1, h2.ext (hR _ _ hx)⟩)

def ugw2 (g xb : Nat) (x : It) (R : Hg) : SoftTab := [(21, fun z9 W => z9 = .pointer (some ⟨g, 0, none⟩)),
  (22, fun z9 W => z9 = .pointer (some ⟨xb, 0, none⟩)),
  (23, fun z9 W => z9 = .agg #[.int .u32 x.c, .int .u32 x.k]),
  (24, fun z9 W => z9 = itv x),
  (25, fun z9 W => z9 = .pointer (some ⟨g, 0, none⟩)),
  (26, fun z9 W => z9 = .func (.func 78) #[.pointer (some ⟨g, 0, none⟩)] #[]),
  (27, fun z9 W => z9 = hgv R)]
theorem ugw2_mono (g xb : Nat) (x : It) (R : Hg) (Rel : World → World → Prop) (hR : ∀ W W', Rel W W' → Ext W W') : SoftMonoR Rel (ugw2 g xb x R) := by
  intro p hp v W W' h hx
  simp only [ugw2, List.mem_cons, List.not_mem_nil, or_false] at hp
  rcases hp with rfl | rfl | rfl | rfl | rfl | rfl | rfl
  all_goals exact h

set_option maxRecDepth 100000 in
set_option maxHeartbeats 16000000 in
theorem grow_any (A : Option Addr) (n cap : Nat) (l : List It) (w : World) (hv : ItS w A l) (hk : knownI l = true) (hn : l.length = n) (hcp : n ≤ cap) (hb : n ≤ 5026338869800) :
    Calls Try.prog 77 #[.slice A n cap] w fun e w' => ∃ g b c mb ns, e = .returned (.pointer (some ⟨g, 0, none⟩)) ∧ GrO w w' g b c mb l ns ∧ Ext w w' := by
  replace hn := Lib.hid hn
  replace hv := Lib.hid hv
  replace hk := Lib.hid hk
  have hw1 : wrap64 ((n : Int) + 1) = ((n + 1 : Nat) : Int) := by rw [w64_in (by omega) (by omega)]; rfl
  have hw2 : IntKind.i64.wrap ((n : Int) + 1) = (n : Int) + 1 := by rw [IntWalk.i64_left]; exact w64_in (by omega) (by omega)
  obtain ⟨s0, hs0⟩ : ∃ s0, w.heap.size = s0 := ⟨_, rfl⟩
  replace hs0 := Lib.hid hs0
  go_enter Try.func77, Try.ntmps77
  go_wp2_with fail
  refine wp_soft_frame Ext 9 (ugw1 A n cap s0) (by kernel_rfl) (by kernel_rfl) (fun _ _ _ => Ext.trans) ((Ext.refl _).drew) rfl (by show List.Nodup [6, 7, 8, 9, 10, 11, 12, 13, 14]; decide) (by show ∀ d ∈ [6, 7, 8, 9, 10, 11, 12, 13, 14], d < 31; decide) (ugw1_mono A n cap s0 Ext (fun _ _ h => h)) ?_ ⟨?_, ?_, ?_, ?_, ?_, ?_, ?_, ?_, ?_, trivial⟩
  · intro W vs hT hR
    match vs, hT with
    | [v0, v1, v2, v3, v4, v5, v6, v7, v8], ⟨e0, e1, e2, e3, e4, e5, e6, e7, e8, _⟩ =>
      simp only [ugw1, List.map_cons, List.map_nil, List.zip_cons_cons, List.zip_nil_left, putAll, List.setIfInBounds_toArray, List.set_cons_zero, List.set_cons_succ, List.drop_succ_cons, List.drop_zero]
      simp only at e0 e1 e2 e4 e5
      obtain ⟨q3, e3, h3⟩ := e3
      obtain ⟨q6, e6, h6⟩ := e6
      obtain ⟨q7, q7b, e7, h7⟩ := e7
      obtain ⟨q8, q8b, q8m, e8, h8⟩ := e8
      rw [e0, e1, e2, e3, e4, e5, e6, e7, e8]
      clear e0 e1 e2 e3 e4 e5 e6 e7 e8 v0 v1 v2 v3 v4 v5 v6 v7 v8
      clear h3 h6 h7 hT
      have hg0 := Lib.hid (show GrO w W q8 q8b (n + 1) q8m (l.take 0) [nd0] from GrZ.grown (hs0.out.symm ▸ h8))
      have hx0 := Lib.hid hR
      clear hR h8
      generalize q8 = g at *
      generalize q8b = b at *
      generalize q8m = mb at *
      go_wp2
      go_loopw [17] (fun i W => ∃ (j : Nat), j ≤ n ∧ i = Vi (j : Int) ∧ (∃ ns, Hid (GrO w W g b (n + 1) mb (l.take j) ns)) ∧ Hid (Ext w W)) (fun i _ => n - (intOf i).toNat)
      case atStart => exact ⟨0, Nat.zero_le _, rfl, ⟨_, hg0⟩, hx0⟩
      case round =>
        clear hg0 hx0
        obtain ⟨j, hj, rfl, ⟨ns, ho⟩, hx⟩ := hrel
        by_cases hlt : j < n
        · obtain ⟨bx, o, x, hA, hp, d⟩ := (hv.out.ext hx.out).at (k := j) (by rw [hn.out]; exact hlt)
          obtain ⟨c0, c1, c2, c3, c4, c5, c6⟩ := d
          have hi1 : (0 : Int) ≤ (j : Int) := by omega
          have hi2 : (j : Int) < (n : Int) := by omega
          have hkx := (known_at hk.out hp).1
          have htk := Lib.hid (take_get hp)
          have hks := Lib.hid (show knownI (l.take j ++ [x]) = true by rw [← htk.out]; exact known_take hk.out _)
          have htl := Lib.hid (show (l.take j).length = j by rw [List.length_take, hn.out]; omega)
          have hks2 := knownX_spec hkx
          subst hA
          clear hp
          generalize l.take j = l0 at *
          obtain ⟨R, hR⟩ : ∃ R, hgP l0 x = R := ⟨_, rfl⟩
          have hhang0 := Lib.hid (fun (W : World) (hW : Ext wr W) => hang_m g l0 x W (fun e1 e2 W2 hW2 => below_any g l0 ns x.rc x.rk x.lc x.lk W2 (ho.out.read.ext (hW.trans hW2)) (hks2.2.2.2.resolve_left e1) (hks2.2.2.1.resolve_left e2) (by rw [htl.out]; omega)))
          have hadd0 := Lib.hid (fun (W : World) (hW : Ext wr W) => add_any g b (n + 1) mb l0 ns x w W (ho.out.ext hW) hks.out (hx.out.trans hW) (by rw [htl.out]; omega) (by rw [htl.out]; omega))
          rw [hR] at hhang0 hadd0
          clear hkx hks2 hR
          have x1 : Ext wr (wr.alloc (.cells #[.int .u32 x.c, .int .u32 x.k, .int .u32 x.lc, .int .u32 x.lk, .int .u32 x.rc, .int .u32 x.rk, .int .i32 x.ch] 43)) := (Ext.refl _).alloc _
          have a0 : (wr.alloc (.cells #[.int .u32 x.c, .int .u32 x.k, .int .u32 x.lc, .int .u32 x.lk, .int .u32 x.rc, .int .u32 x.rk, .int .i32 x.ch] 43)).cell? ⟨wr.heap.size, 0, none⟩ = some (Vu x.c) := by simp [go_sem]
          have a1 : (wr.alloc (.cells #[.int .u32 x.c, .int .u32 x.k, .int .u32 x.lc, .int .u32 x.lk, .int .u32 x.rc, .int .u32 x.rk, .int .i32 x.ch] 43)).cell? ⟨wr.heap.size, 1, none⟩ = some (Vu x.k) := by simp [go_sem]
          have a2 : (wr.alloc (.cells #[.int .u32 x.c, .int .u32 x.k, .int .u32 x.lc, .int .u32 x.lk, .int .u32 x.rc, .int .u32 x.rk, .int .i32 x.ch] 43)).cell? ⟨wr.heap.size, 2, none⟩ = some (Vu x.lc) := by simp [go_sem]
          have a3 : (wr.alloc (.cells #[.int .u32 x.c, .int .u32 x.k, .int .u32 x.lc, .int .u32 x.lk, .int .u32 x.rc, .int .u32 x.rk, .int .i32 x.ch] 43)).cell? ⟨wr.heap.size, 3, none⟩ = some (Vu x.lk) := by simp [go_sem]
          have a4 : (wr.alloc (.cells #[.int .u32 x.c, .int .u32 x.k, .int .u32 x.lc, .int .u32 x.lk, .int .u32 x.rc, .int .u32 x.rk, .int .i32 x.ch] 43)).cell? ⟨wr.heap.size, 4, none⟩ = some (Vu x.rc) := by simp [go_sem]
          have a5 : (wr.alloc (.cells #[.int .u32 x.c, .int .u32 x.k, .int .u32 x.lc, .int .u32 x.lk, .int .u32 x.rc, .int .u32 x.rk, .int .i32 x.ch] 43)).cell? ⟨wr.heap.size, 5, none⟩ = some (Vu x.rk) := by simp [go_sem]
          have a6 : (wr.alloc (.cells #[.int .u32 x.c, .int .u32 x.k, .int .u32 x.lc, .int .u32 x.lk, .int .u32 x.rc, .int .u32 x.rk, .int .i32 x.ch] 43)).cell? ⟨wr.heap.size, 6, none⟩ = some (.int .i32 x.ch) := by simp [go_sem]
          replace x1 := Lib.hid x1
          go_wp2_with fail
          generalize wr.alloc (.cells #[.int .u32 x.c, .int .u32 x.k, .int .u32 x.lc, .int .u32 x.lk, .int .u32 x.rc, .int .u32 x.rk, .int .i32 x.ch] 43) = w1 at *
          generalize wr.heap.size = xb at *
          have hhang := Lib.hid (fun (W : World) (hW : Ext w1 W) => hhang0.out W (x1.out.trans hW))
          have hadd := Lib.hid (fun (W : World) (hW : Ext w1 W) => hadd0.out W (x1.out.trans hW))
          clear hhang0 hadd0 c0 c1 c2 c3 c4 c5 c6
          refine wp_soft_frame Ext 7 (ugw2 g xb x R) (by kernel_rfl) (by kernel_rfl) (fun _ _ _ => Ext.trans) ((Ext.refl _).drew) rfl (by show List.Nodup [21, 22, 23, 24, 25, 26, 27]; decide) (by show ∀ d ∈ [21, 22, 23, 24, 25, 26, 27], d < 31; decide) (ugw2_mono g xb x R Ext (fun _ _ h => h)) ?_ ⟨?_, ?_, ?_, ?_, ?_, ?_, ?_, trivial⟩
          · intro W vs hT hR
            match vs, hT with
            | [v0, v1, v2, v3, v4, v5, v6], ⟨e0, e1, e2, e3, e4, e5, e6, _⟩ =>
              simp only [ugw2, List.map_cons, List.map_nil, List.zip_cons_cons, List.zip_nil_left, putAll, List.setIfInBounds_toArray, List.set_cons_zero, List.set_cons_succ, List.drop_succ_cons, List.drop_zero]
              simp only at e0 e1 e2 e3 e4 e5 e6
              rw [e0, e1, e2, e3, e4, e5, e6]
              clear e0 e1 e2 e3 e4 e5 e6 v0 v1 v2 v3 v4 v5 v6
              clear a0 a1 a2 a3 a4 a5 a6 hT hhang ho
              go_wp2_with fail
              refine (hadd.out _ hR).mono ?_
              rintro e w3 ⟨rfl, ⟨ns', h3⟩, x3⟩
              have h3' := Lib.hid (show GrO w w3 g b (n + 1) mb (l.take (j + 1)) ns' by rw [htk.out]; exact h3)
              replace x3 := Lib.hid x3
              clear h3
              go_wp2
              go_roundw
              case rel =>
                exact ⟨j + 1, by omega, by go_num, ⟨ns', h3'⟩, x3⟩
              case measure => simp [intOf]; omega
          · refine softR_val 21 _ (by kernel_rfl) rfl rfl ?_
            intro a W hx hout hdep
            have ev3 : a.tmps[3]?.getD undef = .pointer (some ⟨g, 0, none⟩) := by rw [← Array.getD_eq_getD_getElem?]; exact hout 3 (by show 3 ∉ [21, 22, 23, 24, 25, 26, 27]; decide)
            refine ⟨rfl, .pointer (some ⟨g, 0, none⟩), W, ?_, rfl, Ext.refl _⟩
            simp [ev3, execOp, go_sem]
          · refine softR_val 22 _ (by kernel_rfl) rfl rfl ?_
            intro a W hx hout hdep
            have ev5 : a.tmps[5]?.getD undef = .pointer (some ⟨xb, 0, none⟩) := by rw [← Array.getD_eq_getD_getElem?]; exact hout 5 (by show 5 ∉ [21, 22, 23, 24, 25, 26, 27]; decide)
            refine ⟨rfl, .pointer (some ⟨xb, 0, none⟩), W, ?_, rfl, Ext.refl _⟩
            simp [ev5, execOp, go_sem]
          · refine softR_val 23 _ (by kernel_rfl) rfl rfl ?_
            intro a W hx hout hdep
            have ev22 : a.tmps[22]?.getD undef = .pointer (some ⟨xb, 0, none⟩) := by rw [← Array.getD_eq_getD_getElem?]; exact (hdep ⟨1, .data⟩ (by simp) rfl 22 _ rfl).1
            have q0 := hx.keep a0
            have q1 := hx.keep a1
            refine ⟨rfl, .agg #[.int .u32 x.c, .int .u32 x.k], W, ?_, rfl, Ext.refl _⟩
            simp [ev22, q0, q1, execOp, go_sem]
          · refine softR_val 24 _ (by kernel_rfl) rfl rfl ?_
            intro a W hx hout hdep
            have ev5 : a.tmps[5]?.getD undef = .pointer (some ⟨xb, 0, none⟩) := by rw [← Array.getD_eq_getD_getElem?]; exact hout 5 (by show 5 ∉ [21, 22, 23, 24, 25, 26, 27]; decide)
            have q0 := hx.keep a0
            have q1 := hx.keep a1
            have q2 := hx.keep a2
            have q3 := hx.keep a3
            have q4 := hx.keep a4
            have q5 := hx.keep a5
            have q6 := hx.keep a6
            refine ⟨rfl, itv x, W, ?_, rfl, Ext.refl _⟩
            simp [ev5, q0, q1, q2, q3, q4, q5, q6, execOp, go_sem]
          · refine softR_val 25 _ (by kernel_rfl) rfl rfl ?_
            intro a W hx hout hdep
            have ev3 : a.tmps[3]?.getD undef = .pointer (some ⟨g, 0, none⟩) := by rw [← Array.getD_eq_getD_getElem?]; exact hout 3 (by show 3 ∉ [21, 22, 23, 24, 25, 26, 27]; decide)
            refine ⟨rfl, .pointer (some ⟨g, 0, none⟩), W, ?_, rfl, Ext.refl _⟩
            simp [ev3, execOp, go_sem]
          · refine softR_val 26 _ (by kernel_rfl) rfl rfl ?_
            intro a W hx hout hdep
            have ev25 : a.tmps[25]?.getD undef = .pointer (some ⟨g, 0, none⟩) := by rw [← Array.getD_eq_getD_getElem?]; exact (hdep ⟨4, .data⟩ (by simp) rfl 25 _ rfl).1
            refine ⟨rfl, .func (.func 78) #[.pointer (some ⟨g, 0, none⟩)] #[], W, ?_, rfl, Ext.refl _⟩
            simp [ev25, execOp, go_sem]
          · refine softR_call 27 _ (by kernel_rfl) rfl rfl ?_
            intro a W hx hout hdep
            have ev24 : a.tmps[24]?.getD undef = itv x := by rw [← Array.getD_eq_getD_getElem?]; exact (hdep ⟨3, .data⟩ (by simp) rfl 24 _ rfl).1
            have ev26 : a.tmps[26]?.getD undef = .func (.func 78) #[.pointer (some ⟨g, 0, none⟩)] #[] := by rw [← Array.getD_eq_getD_getElem?]; exact (hdep ⟨5, .data⟩ (by simp) rfl 26 _ rfl).1
            refine ⟨rfl, 75, #[itv x, .func (.func 78) #[.pointer (some ⟨g, 0, none⟩)] #[]], ?_, ?_⟩
            · simp [ev24, ev26, execOp, go_sem]
            · exact (hhang.out W hx).mono (by rintro e W1 ⟨rfl, h1⟩; exact ⟨_, rfl, rfl, h1⟩)
        · have hjn : j = n := by omega
          subst hjn
          have ho' := Lib.hid (show GrO w wr g b (j + 1) mb l ns by
            have := ho.out
            rwa [List.take_of_length_le (by rw [hn.out]; omega)] at this)
          go_wp2
          go_ret
          exact ⟨g, b, _, mb, ns, rfl, ho'.out, hx.out⟩
  · refine softR_val 6 _ (by kernel_rfl) rfl rfl ?_
    intro a W hx hout hdep
    have ev0 : a.tmps[0]?.getD undef = .slice A n cap := by rw [← Array.getD_eq_getD_getElem?]; exact hout 0 (by show 0 ∉ [6, 7, 8, 9, 10, 11, 12, 13, 14]; decide)
    refine ⟨rfl, .slice A n cap, W, ?_, rfl, Ext.refl _⟩
    simp [ev0, execOp, go_sem]
  · refine softR_val 7 _ (by kernel_rfl) rfl rfl ?_
    intro a W hx hout hdep
    have ev6 : a.tmps[6]?.getD undef = .slice A n cap := by rw [← Array.getD_eq_getD_getElem?]; exact (hdep ⟨0, .data⟩ (by simp) rfl 6 _ rfl).1
    refine ⟨rfl, Vi (n : Int), W, ?_, rfl, Ext.refl _⟩
    simp [ev6, execOp, go_sem]
  · refine softR_val 8 _ (by kernel_rfl) rfl rfl ?_
    intro a W hx hout hdep
    have ev7 : a.tmps[7]?.getD undef = Vi (n : Int) := by rw [← Array.getD_eq_getD_getElem?]; exact (hdep ⟨1, .data⟩ (by simp) rfl 7 _ rfl).1
    refine ⟨rfl, Vi ((n : Int) + 1), W, ?_, rfl, Ext.refl _⟩
    simp [ev7, hw2, execOp, go_sem]
  · refine softR_val 9 _ (by kernel_rfl) rfl rfl ?_
    intro a W hx hout hdep
    have ev8 : a.tmps[8]?.getD undef = Vi ((n : Int) + 1) := by rw [← Array.getD_eq_getD_getElem?]; exact (hdep ⟨2, .data⟩ (by simp) rfl 8 _ rfl).1
    obtain ⟨hm1, hm2⟩ := make_nodes n hb W
    replace hm1 : (Instr.makeSlice 148 (.int .i64 1) (.int .i64 ((n : Int) + 1))).run Try.prog W = _ := hm1
    refine ⟨rfl, .slice (some ⟨W.heap.size, 0, none⟩) 1 (n + 1), _, ?_, ⟨_, rfl, hs0.out ▸ hx.size, hm2⟩, (Ext.refl W).alloc _⟩
    simp [ev8, execOp, go_sem, hm1, Result.andThen]
  · refine softR_val 10 _ (by kernel_rfl) rfl rfl ?_
    intro a W hx hout hdep
    have ev0 : a.tmps[0]?.getD undef = .slice A n cap := by rw [← Array.getD_eq_getD_getElem?]; exact hout 0 (by show 0 ∉ [6, 7, 8, 9, 10, 11, 12, 13, 14]; decide)
    refine ⟨rfl, .slice A n cap, W, ?_, rfl, Ext.refl _⟩
    simp [ev0, execOp, go_sem]
  · refine softR_val 11 _ (by kernel_rfl) rfl rfl ?_
    intro a W hx hout hdep
    have ev10 : a.tmps[10]?.getD undef = .slice A n cap := by rw [← Array.getD_eq_getD_getElem?]; exact (hdep ⟨4, .data⟩ (by simp) rfl 10 _ rfl).1
    refine ⟨rfl, Vi (n : Int), W, ?_, rfl, Ext.refl _⟩
    simp [ev10, execOp, go_sem]
  · refine softR_val 12 _ (by kernel_rfl) rfl rfl ?_
    intro a W hx hout hdep
    have ev11 : a.tmps[11]?.getD undef = Vi (n : Int) := by rw [← Array.getD_eq_getD_getElem?]; exact (hdep ⟨5, .data⟩ (by simp) rfl 11 _ rfl).1
    refine ⟨rfl, .map (some W.heap.size), _, ?_, ⟨_, rfl, hs0.out ▸ hx.size, MapS.made W⟩, (Ext.refl W).alloc _⟩
    simp [ev11, execOp, go_sem, make_map Try.underlying149, Result.andThen]
  · refine softR_val 13 _ (by kernel_rfl) rfl rfl ?_
    intro a W hx hout hdep
    have tl9 := (hdep ⟨3, .data⟩ (by simp) rfl 9 _ rfl).1
    have tl12 := (hdep ⟨6, .data⟩ (by simp) rfl 12 _ rfl).1
    obtain ⟨q1, hq1, hq2, hq3⟩ := tl9
    obtain ⟨q2, hr1, hr2, hr3⟩ := tl12
    refine ⟨rfl, .agg #[.slice (some ⟨q1, 0, none⟩) 1 (n + 1), .map (some q2)], W, ?_, ⟨_, _, rfl, hq2, hr2, hq3, hr3⟩, Ext.refl _⟩
    rw [Array.getD_eq_getD_getElem?] at hq1 hr1
    simp [execOp, go_sem, hq1, hr1]
  · refine softR_val 14 _ (by kernel_rfl) rfl rfl ?_
    intro a W hx hout hdep
    have tl13 := (hdep ⟨7, .data⟩ (by simp) rfl 13 _ rfl).1
    obtain ⟨q1, q2, hq1, hq2, hq3, hq4, hq5⟩ := tl13
    refine ⟨rfl, .pointer (some ⟨W.heap.size, 0, none⟩), _, ?_, ⟨_, q1, q2, rfl, GrZ.boxed hq4 hq5 (hs0.out ▸ hx.size) hq2 hq3⟩, (Ext.refl W).alloc _⟩
    rw [Array.getD_eq_getD_getElem?] at hq1
    simp [execOp, go_sem, hq1]

end Go.Proofs.Ytmpomammieenjaa

namespace Go.Proofs.Ytmpomammieenjaa
open Go.ChangeShapes Go.WideShapes Go.ChangeAt Go.RowKit Go.Sort
set_option linter.unusedVariables false
set_option linter.unusedSimpArgs false
attribute [local go_sem] World.cell?_alloc_some

def upl (A : Option Addr) (n cap : Nat) (l : List It) (a1 a2 b1 b2 : Int) : SoftTab := [(6, fun z9 W => z9 = .slice A n cap),
  (7, fun z9 W => ∃ g, z9 = .pointer (some ⟨g, 0, none⟩) ∧ ∃ ns, GrS W g l ns),
  (8, fun z9 W => z9 = .agg #[.int .u32 a1, .int .u32 a2]),
  (9, fun z9 W => z9 = .agg #[.int .u32 b1, .int .u32 b2])]
theorem upl_mono (A : Option Addr) (n cap : Nat) (l : List It) (a1 a2 b1 b2 : Int) (Rel : World → World → Prop) (hR : ∀ W W', Rel W W' → Ext W W') : SoftMonoR Rel (upl A n cap l a1 a2 b1 b2) := by
  intro p hp v W W' h hx
  simp only [upl, List.mem_cons, List.not_mem_nil, or_false] at hp
  rcases hp with rfl | rfl | rfl | rfl
  all_goals first
    | exact h
    | exact (by obtain ⟨g, h1, ns, h2⟩ := h; exact ⟨g, h1, ns, h2.ext (hR _ _ hx)⟩)

set_option maxRecDepth 100000 in
set_option maxHeartbeats 16000000 in
theorem place1_any (A : Option Addr) (n cap q : Nat) (l : List It) (a1 a2 b1 b2 : Int) (w : World) (g0 : w.cell? ⟨q, 0, none⟩ = some (.slice A n cap)) (hv : ItS w A l) (hk : knownI l = true) (ha : hasI l (a1, a2) = true) (hbb : hasI l (b1, b2) = true) (hn : l.length = n) (hcp : n ≤ cap) (hb : n ≤ 5026338869800) :
    Calls Try.prog 76 #[idv a1 a2, idv b1 b2, .pointer (some ⟨q, 0, none⟩)] w fun e w' => e = .returned (.bool (blwP l (paths l) (a1, a2) (b1, b2))) ∧ Ext w w' := by
  have hgrow0 := Lib.hid (fun (W : World) (hW : Ext w W) => grow_any A n cap l W (hv.ext hW) hk hn hcp hb)
  have hbel := Lib.hid (fun (g : Nat) (ns : List Nd) (W : World) (hW : GrS W g l ns) => below_any g l ns a1 a2 b1 b2 W hW ha hbb (by rw [hn]; omega))
  obtain ⟨B, hB⟩ : ∃ B, blwP l (paths l) (a1, a2) (b1, b2) = B := ⟨_, rfl⟩
  rw [hB] at hbel ⊢
  clear hv hk ha hbb hn hB
  have x0 := ((Ext.refl w).alloc (.cells #[.int .u32 a1, .int .u32 a2] 41)).alloc (.cells #[.int .u32 b1, .int .u32 b2] 41)
  have k0 : ((w.alloc (.cells #[.int .u32 a1, .int .u32 a2] 41)).alloc (.cells #[.int .u32 b1, .int .u32 b2] 41)).cell? ⟨w.heap.size, 0, none⟩ = some (Vu a1) := by simp [go_sem]
  have k1 : ((w.alloc (.cells #[.int .u32 a1, .int .u32 a2] 41)).alloc (.cells #[.int .u32 b1, .int .u32 b2] 41)).cell? ⟨w.heap.size, 1, none⟩ = some (Vu a2) := by simp [go_sem]
  have k2 : ((w.alloc (.cells #[.int .u32 a1, .int .u32 a2] 41)).alloc (.cells #[.int .u32 b1, .int .u32 b2] 41)).cell? ⟨w.heap.size + 1, 0, none⟩ = some (Vu b1) := by simp [go_sem]
  have k3 : ((w.alloc (.cells #[.int .u32 a1, .int .u32 a2] 41)).alloc (.cells #[.int .u32 b1, .int .u32 b2] 41)).cell? ⟨w.heap.size + 1, 1, none⟩ = some (Vu b2) := by simp [go_sem]
  replace g0 := x0.keep g0
  replace x0 := Lib.hid x0
  go_enter Try.func76, Try.ntmps76
  go_wp2_with fail
  generalize (w.alloc (.cells #[.int .u32 a1, .int .u32 a2] 41)).alloc (.cells #[.int .u32 b1, .int .u32 b2] 41) = w1 at *
  generalize w.heap.size = pa at *
  obtain ⟨pb, hpb⟩ : ∃ pb, pa + 1 = pb := ⟨_, rfl⟩
  rw [hpb] at k2 k3 ⊢
  clear hpb
  have hgrow := Lib.hid (fun (W : World) (hW : Ext w1 W) => hgrow0.out W (x0.out.trans hW))
  clear hgrow0
  refine wp_soft_frame Ext 4 (upl A n cap l a1 a2 b1 b2) (by kernel_rfl) (by kernel_rfl) (fun _ _ _ => Ext.trans) ((Ext.refl _).drew) rfl (by show List.Nodup [6, 7, 8, 9]; decide) (by show ∀ d ∈ [6, 7, 8, 9], d < 11; decide) (upl_mono A n cap l a1 a2 b1 b2 Ext (fun _ _ h => h)) ?_ ⟨?_, ?_, ?_, ?_, trivial⟩
  · intro W vs hT hR
    match vs, hT with
    | [v0, v1, v2, v3], ⟨e0, e1, e2, e3, _⟩ =>
      simp only [upl, List.map_cons, List.map_nil, List.zip_cons_cons, List.zip_nil_left, putAll, List.setIfInBounds_toArray, List.set_cons_zero, List.set_cons_succ, List.drop_succ_cons, List.drop_zero]
      simp only at e0 e2 e3
      obtain ⟨q1, e1, h1⟩ := e1
      rw [e0, e1, e2, e3]
      clear e0 e1 e2 e3 v0 v1 v2 v3
      obtain ⟨ns, hG⟩ := h1
      have hE := Lib.hid (x0.out.trans hR)
      clear k0 k1 k2 k3 g0 hT hgrow
      go_wp2_with fail
      refine (hbel.out q1 ns W hG).mono ?_
      rintro e w3 ⟨rfl, x3⟩
      replace hE := Lib.hid (hE.out.trans x3)
      clear x3 hG
      go_wp2
      go_ret
      exact ⟨rfl, hE.out⟩
  · refine softR_val 6 _ (by kernel_rfl) rfl rfl ?_
    intro a W hx hout hdep
    have ev2 : a.tmps[2]?.getD undef = .pointer (some ⟨q, 0, none⟩) := by rw [← Array.getD_eq_getD_getElem?]; exact hout 2 (by show 2 ∉ [6, 7, 8, 9]; decide)
    have q0 := hx.keep g0
    refine ⟨rfl, .slice A n cap, W, ?_, rfl, Ext.refl _⟩
    simp [ev2, q0, execOp, go_sem]
  · refine softR_call 7 _ (by kernel_rfl) rfl rfl ?_
    intro a W hx hout hdep
    have ev6 : a.tmps[6]?.getD undef = .slice A n cap := by rw [← Array.getD_eq_getD_getElem?]; exact (hdep ⟨0, .data⟩ (by simp) rfl 6 _ rfl).1
    refine ⟨rfl, 77, #[.slice A n cap], ?_, ?_⟩
    · simp [ev6, execOp, go_sem]
    · exact (hgrow.out W hx).mono (by rintro e W1 ⟨g, b, c, mb, ns, rfl, h1, h2⟩; exact ⟨_, rfl, ⟨g, rfl, ns, h1.read⟩, h2⟩)
  · refine softR_val 8 _ (by kernel_rfl) rfl rfl ?_
    intro a W hx hout hdep
    have ev3 : a.tmps[3]?.getD undef = .pointer (some ⟨pa, 0, none⟩) := by rw [← Array.getD_eq_getD_getElem?]; exact hout 3 (by show 3 ∉ [6, 7, 8, 9]; decide)
    have q0 := hx.keep k0
    have q1 := hx.keep k1
    refine ⟨rfl, .agg #[.int .u32 a1, .int .u32 a2], W, ?_, rfl, Ext.refl _⟩
    simp [ev3, q0, q1, execOp, go_sem]
  · refine softR_val 9 _ (by kernel_rfl) rfl rfl ?_
    intro a W hx hout hdep
    have ev4 : a.tmps[4]?.getD undef = .pointer (some ⟨pb, 0, none⟩) := by rw [← Array.getD_eq_getD_getElem?]; exact hout 4 (by show 4 ∉ [6, 7, 8, 9]; decide)
    have q0 := hx.keep k2
    have q1 := hx.keep k3
    refine ⟨rfl, .agg #[.int .u32 b1, .int .u32 b2], W, ?_, rfl, Ext.refl _⟩
    simp [ev4, q0, q1, execOp, go_sem]

set_option maxRecDepth 100000 in
set_option maxHeartbeats 16000000 in
theorem place_tr (A : Option Addr) (n cap : Nat) (l : List It) (x : It) (w : World) (hv : ItS w A l) (hk : knownI l = true) (hx : knownX l x = true) (hn : l.length = n) (hcp : n ≤ cap) (hb : n ≤ 5026338869800) :
    Calls Try.prog 54 #[.slice A n cap, itv x] w fun e w' => e = .returned (hgv (hgP l x)) ∧ Ext w w' := by
  obtain ⟨_, _, hl, hr⟩ := knownX_spec hx
  have hcall := Lib.hid (fun (q : Nat) (W : World) (hW : Ext w W) (g0 : W.cell? ⟨q, 0, none⟩ = some (.slice A n cap)) => hang_c q l x W (fun e1 e2 W2 hW2 => place1_any A n cap q l x.rc x.rk x.lc x.lk W2 (hW2.keep g0) (hv.ext (hW.trans hW2)) hk (hr.resolve_left e1) (hl.resolve_left e2) hn hcp hb))
  obtain ⟨R, hR⟩ : ∃ R, hgP l x = R := ⟨_, rfl⟩
  rw [hR] at hcall ⊢
  clear hl hr hR hx hk hn hv
  obtain ⟨⟨ra, rb⟩, rr⟩ := R
  go_enter Try.func54, Try.ntmps54
  go_wp2_with fail
  have x0 : Ext w (((w.alloc (.cells #[.slice A n cap] 35)).alloc (.cells #[.int .u32 x.c, .int .u32 x.k, .int .u32 x.lc, .int .u32 x.lk, .int .u32 x.rc, .int .u32 x.rk, .int .i32 x.ch] 43)).alloc (.cells #[.int .u32 0, .int .u32 0, .bool false] 114)) := (((Ext.refl w).alloc _).alloc _).alloc _
  have g0 : (((w.alloc (.cells #[.slice A n cap] 35)).alloc (.cells #[.int .u32 x.c, .int .u32 x.k, .int .u32 x.lc, .int .u32 x.lk, .int .u32 x.rc, .int .u32 x.rk, .int .i32 x.ch] 43)).alloc (.cells #[.int .u32 0, .int .u32 0, .bool false] 114)).cell? ⟨w.heap.size, 0, none⟩ = some (.slice A n cap) := by simp [go_sem]
  have b0 : HtIs (((w.alloc (.cells #[.slice A n cap] 35)).alloc (.cells #[.int .u32 x.c, .int .u32 x.k, .int .u32 x.lc, .int .u32 x.lk, .int .u32 x.rc, .int .u32 x.rk, .int .i32 x.ch] 43)).alloc (.cells #[.int .u32 0, .int .u32 0, .bool false] 114)) (w.heap.size + 2) ⟨(0, 0), false⟩ := by
    have := HtIs.new ((w.alloc (.cells #[.slice A n cap] 35)).alloc (.cells #[.int .u32 x.c, .int .u32 x.k, .int .u32 x.lc, .int .u32 x.lk, .int .u32 x.rc, .int .u32 x.rk, .int .i32 x.ch] 43)) 0 0 false
    rwa [show ((w.alloc (.cells #[.slice A n cap] 35)).alloc (.cells #[.int .u32 x.c, .int .u32 x.k, .int .u32 x.lc, .int .u32 x.lk, .int .u32 x.rc, .int .u32 x.rk, .int .i32 x.ch] 43)).heap.size = w.heap.size + 2 by simp] at this
  refine (hcall.out w.heap.size _ x0 g0).mono ?_
  rintro e w1 ⟨rfl, x1⟩
  replace b0 := Lib.hid (b0.ext x1)
  have xw := x0.trans x1
  clear g0 x0 x1
  have hwb : w.heap.size ≤ w.heap.size + 2 := by omega
  obtain ⟨pb, hpb⟩ : ∃ pb, w.heap.size + 2 = pb := ⟨_, rfl⟩
  rw [hpb] at b0 hwb ⊢
  clear hpb
  obtain ⟨k0, k1, k2⟩ := b0.out.cells
  have f0 := b0.out.thaw 0
  have f1 := b0.out.thaw 1
  have f2 := b0.out.thaw 2
  obtain ⟨z0, z1, z2⟩ := (b0.out.store ra rb rr).cells
  go_wp2
  exact bodyPost_ret (v := hgv ⟨(ra, rb), rr⟩) (by simp [results, Try.results54, go_sem, z0, z1, z2]) rfl ⟨rfl, ((xw.setCell hwb _).setCell hwb _).setCell hwb _⟩

end Go.Proofs.Ytmpomammieenjaa

namespace Go.Proofs.Ytmpomammieenjaa
open Go.ChangeShapes Go.WideShapes Go.ChangeAt Go.RowKit Go.Sort
set_option linter.unusedVariables false
set_option linter.unusedSimpArgs false
set_option linter.unusedSimpArgs false
attribute [local go_sem] World.cell?_alloc_some

def HgL (W : World) (q : Nat) (a b : Int) (r : Bool) : Prop := W.heap[q]? = some (.cells #[Vu a, Vu b, .bool r] 114 (0, 0))
def hn1Tab (W1 : World) (L : List It) (x : It) (y : Lv) (o1 o2 : Int) (rt : Bool) : SoftTab := [(7, fun z9 W => z9 = itv x),
  (8, fun z9 W => z9 = .pointer y.p),
  (9, fun z9 W => ∃ q : Value, z9 = q ∧ OwnI W1 W q (nbs L x)),
  (10, fun z9 W => z9 = itv x),
  (11, fun z9 W => z9 = .agg #[.int .u32 o1, .int .u32 o2, .bool rt]),
  (5, fun z9 W => ∃ q, z9 = .pointer (some ⟨q, 0, none⟩) ∧ (W1.heap.size ≤ q ∧ HgL W q 0 0 false))]
theorem hn1Tab_mono (W1 : World) (L : List It) (x : It) (y : Lv) (o1 o2 : Int) (rt : Bool) (Rel : World → World → Prop) (hR : ∀ W W', Rel W W' → Ext W W') : SoftMonoR Rel (hn1Tab W1 L x y o1 o2 rt) := by
  intro p hp v W W' h hx
  simp only [hn1Tab, List.mem_cons, List.not_mem_nil, or_false] at hp
  rcases hp with rfl | rfl | rfl | rfl | rfl | rfl
  all_goals first
    | exact h
    | exact (by first | (obtain ⟨q, h1, h2⟩ := h; exact ⟨q, h1, h2.ext (hR _ _ hx)⟩) | (obtain ⟨q, h1, h2, h3⟩ := h; exact ⟨q, h1, h2, ((RowKit.Below.block (hR _ _ hx) q (Array.getElem?_eq_some_iff.1 h3).1).trans h3)⟩))

def hn3Tab (L : List It) (ad : I2 → Nat) (x : It) (po : Option Addr) (pb q5 dn : Nat) (o1 o2 : Int) (rt : Bool) : SoftTab := [(16, fun z9 W => z9 = itv x),
  (17, fun z9 W => z9 = .pointer po),
  (18, fun z9 W => z9 = .pointer (some ⟨q5, 2, none⟩)),
  (19, fun z9 W => z9 = .bool rt),
  (20, fun z9 W => z9 = .pointer po),
  (21, fun z9 W => z9 = Vi (dn : Int)),
  (22, fun z9 W => z9 = Vi ((dn : Int) + 1)),
  (23, fun z9 W => z9 = .pointer po),
  (24, fun z9 W => ∃ f : I2, z9 = vAd ad f ∧ (RtL L f ∧ ∃ r, pth L (o1, o2) = pth L f ++ r))]
theorem hn3Tab_mono (L : List It) (ad : I2 → Nat) (x : It) (po : Option Addr) (pb q5 dn : Nat) (o1 o2 : Int) (rt : Bool) (Rel : World → World → Prop) (hR : ∀ W W', Rel W W' → Ext W W') : SoftMonoR Rel (hn3Tab L ad x po pb q5 dn o1 o2 rt) := by
  intro p hp v W W' h hx
  simp only [hn3Tab, List.mem_cons, List.not_mem_nil, or_false] at hp
  rcases hp with rfl | rfl | rfl | rfl | rfl | rfl | rfl | rfl | rfl
  all_goals first
    | exact h
    | exact h

theorem valid_any (c : Int) {B : Bool} (hB : okB c = B) (w : World) : Calls Try.prog 32 #[.int .i32 c] w fun e w' => e = .returned (.bool B) ∧ Ext w w' := by
  subst hB
  go_enter Try.func32, Try.ntmps32
  go_wp2
  all_goals go_ret
  all_goals refine ⟨ret_bool ?_, Ext.refl _⟩
  all_goals (rw [Bool.eq_iff_iff]; simp [okB]; try omega)

theorem LC.findRt {F : Nat → Prop} {W : World} {y : Lv} {L : List It} {G : List I2} {t : HT} {ad : I2 → Nat} (h : LC F W y L G t ad) {o1 o2 : Int} (hrt : RtL L (o1, o2)) :
    Calls Try.prog 30 #[.pointer y.p, idv o1 o2] W fun e w' => e = .returned (vAd ad (o1, o2)) ∧ Ext W w' := by
  rcases hrt with e | e
  · injection e with e1 e2
    subst e1
    subst e2
    exact h.findNo (has_root h.nd.kn _)
  · rw [vAd_of h.nd.kn e]
    exact h.findIn e

set_option maxRecDepth 100000 in
set_option maxHeartbeats 16000000 in
theorem LC.newNode {F : Nat → Prop} {W0 : World} {y : Lv} {L : List It} {G : List I2} {t : HT} {ad : I2 → Nat} (h : LC F W0 y L G t ad) (hl : L.length ≤ 900) (x : It) (hx0 : knownX L x = true) :
    Calls Try.prog 33 #[itv x, .pointer y.p] W0 fun e w' => ∃ (q : Nat) (far : I2), e = .returned (Vp q) ∧ W0.heap.size ≤ q ∧ NC w' q x (vAd ad (hgP L x).on) (hgP L x).right (((pth L (hgP L x).on).length + 1 : Nat) : Int) (vAd ad far) ∧ (RtL L far ∧ ∃ r, pth L (hgP L x).on = pth L far ++ r) ∧ Ext W0 w' := by
  have hrt := hg_rt hx0
  obtain ⟨k1, k2, k3, k4⟩ := nbs_is h.nd.kn hx0
  have hpl := Lib.hid (fun W (A : Option Addr) (n c : Nat) (hv : ItS W A (nbs L x)) (hn : (nbs L x).length = n) (hc : n ≤ c) => place_tr A n c (nbs L x) x W hv k1 k2 hn hc (by omega))
  rw [k3] at hpl
  obtain ⟨o, ho⟩ : ∃ o, hgP L x = o := ⟨_, rfl⟩
  obtain ⟨⟨o1, o2⟩, rt⟩ := o
  rw [ho] at hrt hpl ⊢
  simp only at hrt
  show Calls _ _ _ _ fun e w' => ∃ (q : Nat) (far : I2), e = .returned (Vp q) ∧ W0.heap.size ≤ q ∧ NC w' q x (vAd ad (o1, o2)) rt (((pth L (o1, o2)).length + 1 : Nat) : Int) (vAd ad far) ∧ (RtL L far ∧ ∃ r, pth L (o1, o2) = pth L far ++ r) ∧ Ext W0 w'
  change Hid (∀ W (A : Option Addr) (n c : Nat), ItS W A (nbs L x) → (nbs L x).length = n → n ≤ c → Calls Try.prog 54 #[.slice A n c, itv x] W fun e w' => e = .returned (.agg #[.int .u32 o1, .int .u32 o2, .bool rt]) ∧ Ext W w') at hpl
  have hnb := Lib.hid (fun W (hw : Ext W0 W) => (h.ext hw).neighbours hl x hx0)
  have hfi := Lib.hid (fun W (hw : Ext W0 W) => (h.ext hw).findRt hrt)
  have hlp := pth_length h.nd.kn (o1, o2)
  obtain ⟨dn, hdn⟩ : ∃ dn, (pth L (o1, o2)).length = dn := ⟨_, rfl⟩
  have hdp := Lib.hid (fun W (hw : Ext W0 W) => deep_any W (h.ext hw).nd hrt dn hdn)
  have hff := Lib.hid (fun W (hw : Ext W0 W) => farH_any W (h.ext hw).nd hrt (by omega))
  have hd9 : dn ≤ 900 := by omega
  rw [hdn]
  obtain ⟨po, hpo⟩ := vAd_ptr ad (o1, o2)
  rw [hpo] at hfi hdp hff ⊢
  clear h ho k1 k2 k3 k4 hx0 hlp hdn hrt hpo
  have x0 : Ext W0 (W0.alloc (icells x)) := (Ext.refl W0).alloc _
  have bi := BoxI.newL W0 x
  have hs0 : (W0.alloc (icells x)).heap.size = W0.heap.size + 1 := by simp
  go_enter Try.func33, Try.ntmps33
  go_wp2_with fail
  obtain ⟨W1, hW1⟩ : ∃ W1, W0.alloc (icells x) = W1 := ⟨_, rfl⟩
  obtain ⟨pb, hpb⟩ : ∃ pb, W0.heap.size = pb := ⟨_, rfl⟩
  change BoxI (W0.alloc (icells x)) _ x at bi
  rw [hW1] at x0 bi hs0
  rw [hpb] at bi ⊢
  show Code.wp _ _ _ _ (W0.alloc (icells x))
  rw [hW1]
  have hpz := Lib.hid hpb
  clear hW1 hpb
  replace hnb := Lib.hid (fun W (hw : Ext W1 W) => hnb.out W (x0.trans hw))
  replace hfi := Lib.hid (fun W (hw : Ext W1 W) => hfi.out W (x0.trans hw))
  replace hdp := Lib.hid (fun W (hw : Ext W1 W) => hdp.out W (x0.trans hw))
  replace hff := Lib.hid (fun W (hw : Ext W1 W) => hff.out W (x0.trans hw))
  obtain ⟨b0, b1, b2, b3, b4, b5, b6⟩ := bi.cells
  simp only [Nat.zero_add] at b0 b1 b2 b3 b4 b5 b6
  refine wp_soft_frame Ext 6 (hn1Tab W1 L x y o1 o2 rt) (by kernel_rfl) (by kernel_rfl) (fun _ _ _ => Ext.trans) ((Ext.refl _).drew) rfl (by show List.Nodup [7, 8, 9, 10, 11, 5]; decide) (by show ∀ d ∈ [7, 8, 9, 10, 11, 5], d < 27; decide) (hn1Tab_mono W1 L x y o1 o2 rt Ext (fun _ _ h => h)) ?_ ⟨?_, ?_, ?_, ?_, ?_, ?_, trivial⟩
  · intro W vs hT hR
    match vs, hT with
    | [v0, v1, v2, v3, v4, v5], ⟨e0, e1, e2, e3, e4, e5, _⟩ =>
      simp only [hn1Tab, List.map_cons, List.map_nil, List.zip_cons_cons, List.zip_nil_left, putAll, List.setIfInBounds_toArray, List.set_cons_zero, List.set_cons_succ, List.drop_succ_cons, List.drop_zero]
      simp only at e0 e1 e3 e4
      obtain ⟨q2, e2, h2⟩ := e2
      obtain ⟨q5, e5, h5⟩ := e5
      rw [e0, e1, e2, e3, e4, e5]
      clear e0 e1 e2 e3 e4 e5 v0 v1 v2 v3 v4 v5
      obtain ⟨hq5, hg5⟩ := h5
      have hpq : pb ≠ q5 := by have := hpz.out; omega
      have hbW := bi.ext hR
      have w0 : (W.setCell ⟨q5, 0, none⟩ (Vu o1)).heap[q5]? = some (.cells #[Vu o1, Vu 0, .bool false] 114 (0, 0)) := heap_setCell_same W q5 0 _ _ _ hg5
      have w1' : ((W.setCell ⟨q5, 0, none⟩ (Vu o1)).setCell ⟨q5, 1, none⟩ (Vu o2)).heap[q5]? = some (.cells #[Vu o1, Vu o2, .bool false] 114 (0, 0)) := heap_setCell_same _ q5 1 _ _ _ w0
      have w2' : (((W.setCell ⟨q5, 0, none⟩ (Vu o1)).setCell ⟨q5, 1, none⟩ (Vu o2)).setCell ⟨q5, 2, none⟩ (.bool rt)).heap[q5]? = some (.cells #[Vu o1, Vu o2, .bool rt] 114 (0, 0)) := heap_setCell_same _ q5 2 _ _ _ w1'
      have z0 := cell_of_row W q5 0 _ _ _ hg5
      have z1 := cell_of_row W q5 1 _ _ _ hg5
      have z2 := cell_of_row W q5 2 _ _ _ hg5
      have f0 := frozen_of_row W q5 0 _ _ hg5
      have f1 := frozen_of_row W q5 1 _ _ hg5
      have f2 := frozen_of_row W q5 2 _ _ hg5
      have hrx : RX q5 W (((W.setCell ⟨q5, 0, none⟩ (Vu o1)).setCell ⟨q5, 1, none⟩ (Vu o2)).setCell ⟨q5, 2, none⟩ (.bool rt)) := (((RX.refl q5 W).set 0 _ (.inr rfl)).set 1 _ (.inr rfl)).set 2 _ (.inr rfl)
      have hb2 := Lib.hid (hrx.blk hbW hpq)
      have hE2 := Lib.hid (((hR.setCell (p := ⟨q5, 0, none⟩) hq5 (Vu o1)).setCell (p := ⟨q5, 1, none⟩) hq5 (Vu o2)).setCell (p := ⟨q5, 2, none⟩) hq5 (.bool rt))
      replace w2' := Lib.hid w2'
      clear hrx hbW w0 w1' hg5 hpq hnb hpl b0 b1 b2 b3 b4 b5 b6 h2 hT
      go_wp2_with fail
      generalize ((W.setCell ⟨q5, 0, none⟩ (Vu o1)).setCell ⟨q5, 1, none⟩ (Vu o2)).setCell ⟨q5, 2, none⟩ (.bool rt) = W2 at *
      clear z0 z1 z2 f0 f1 f2
      refine (hfi.out _ hE2.out).mono ?_
      rintro e W3 ⟨rfl, x3⟩
      have hE3 := hE2.out.trans x3
      obtain ⟨b0, b1, b2, b3, b4, b5, b6⟩ := (show BoxI W3 pb x from BoxI.ext (show BoxI W2 pb x from hb2.out) x3).cells
      simp only [Nat.zero_add] at b0 b1 b2 b3 b4 b5 b6
      have cr := x3.keep (cell_of_row W2 q5 2 _ _ _ w2'.out)
      replace hdp := Lib.hid (fun W (hw : Ext W3 W) => hdp.out W (hE3.trans hw))
      replace hff := Lib.hid (fun W (hw : Ext W3 W) => hff.out W (hE3.trans hw))
      replace hE3 := Lib.hid hE3
      clear hE2 hb2 w2' hfi x3 hR
      go_wp2_with fail
      refine wp_soft_frame Ext 9 (hn3Tab L ad x po pb q5 dn o1 o2 rt) (by kernel_rfl) (by kernel_rfl) (fun _ _ _ => Ext.trans) ((Ext.refl _).drew) rfl (by show List.Nodup [16, 17, 18, 19, 20, 21, 22, 23, 24]; decide) (by show ∀ d ∈ [16, 17, 18, 19, 20, 21, 22, 23, 24], d < 27; decide) (hn3Tab_mono L ad x po pb q5 dn o1 o2 rt Ext (fun _ _ h => h)) ?_ ⟨?_, ?_, ?_, ?_, ?_, ?_, ?_, ?_, ?_, trivial⟩
      · intro W vs hT hR
        match vs, hT with
        | [v0, v1, v2, v3, v4, v5, v6, v7, v8], ⟨e0, e1, e2, e3, e4, e5, e6, e7, e8, _⟩ =>
          simp only [hn3Tab, List.map_cons, List.map_nil, List.zip_cons_cons, List.zip_nil_left, putAll, List.setIfInBounds_toArray, List.set_cons_zero, List.set_cons_succ, List.drop_succ_cons, List.drop_zero]
          simp only at e0 e1 e2 e3 e4 e5 e6 e7
          obtain ⟨q8, e8, h8⟩ := e8
          rw [e0, e1, e2, e3, e4, e5, e6, e7, e8]
          clear e0 e1 e2 e3 e4 e5 e6 e7 e8 v0 v1 v2 v3 v4 v5 v6 v7 v8
          obtain ⟨pf, hpf⟩ := vAd_ptr ad q8
          rw [hpf]
          have hE4 := Lib.hid (x0.trans (hE3.out.trans hR))
          have hend := Lib.hid (show NC (W.alloc (.cells #[Vu x.c, Vu x.k, Vu x.lc, Vu x.lk, Vu x.rc, Vu x.rk, .int .i32 x.ch, .pointer po, .bool rt, Vi ((dn : Int) + 1), .pointer pf] 110)) W.heap.size x (.pointer po) rt ((dn + 1 : Nat) : Int) (vAd ad q8) from by
            rw [hpf, show ((dn + 1 : Nat) : Int) = (dn : Int) + 1 by omega]
            exact heap_alloc_new W _)
          have hfar := Lib.hid h8
          replace hpf := Lib.hid hpf
          clear h8 hR b0 b1 b2 b3 b4 b5 b6 cr hdp hff
          go_wp2
          go_ret
          exact ⟨_, q8, rfl, hE4.out.size, hend.out, hfar.out, hE4.out.alloc _⟩
      · refine softR_val 16 _ (by kernel_rfl) rfl rfl ?_
        intro a W hx hout hdep
        have ev2 : a.tmps[2]?.getD undef = .pointer (some ⟨pb, 0, none⟩) := by rw [← Array.getD_eq_getD_getElem?]; exact hout 2 (by show 2 ∉ [16, 17, 18, 19, 20, 21, 22, 23, 24]; decide)
        have q0 := hx.keep b0
        have q1 := hx.keep b1
        have q2 := hx.keep b2
        have q3 := hx.keep b3
        have q4 := hx.keep b4
        have q5 := hx.keep b5
        have q6 := hx.keep b6
        refine ⟨rfl, itv x, W, ?_, rfl, Ext.refl _⟩
        simp [ev2, q0, q1, q2, q3, q4, q5, q6, execOp, go_sem]
      · refine softR_val 17 _ (by kernel_rfl) rfl rfl ?_
        intro a W hx hout hdep
        have ev6 : a.tmps[6]?.getD undef = .pointer po := by rw [← Array.getD_eq_getD_getElem?]; exact hout 6 (by show 6 ∉ [16, 17, 18, 19, 20, 21, 22, 23, 24]; decide)
        refine ⟨rfl, .pointer po, W, ?_, rfl, Ext.refl _⟩
        simp [ev6, execOp, go_sem]
      · refine softR_val 18 _ (by kernel_rfl) rfl rfl ?_
        intro a W hx hout hdep
        have ev5 : a.tmps[5]?.getD undef = .pointer (some ⟨q5, 0, none⟩) := by rw [← Array.getD_eq_getD_getElem?]; exact hout 5 (by show 5 ∉ [16, 17, 18, 19, 20, 21, 22, 23, 24]; decide)
        refine ⟨rfl, .pointer (some ⟨q5, 2, none⟩), W, ?_, rfl, Ext.refl _⟩
        simp [ev5, execOp, go_sem]
      · refine softR_val 19 _ (by kernel_rfl) rfl rfl ?_
        intro a W hx hout hdep
        have ev18 : a.tmps[18]?.getD undef = .pointer (some ⟨q5, 2, none⟩) := by rw [← Array.getD_eq_getD_getElem?]; exact (hdep ⟨2, .data⟩ (by simp) rfl 18 _ rfl).1
        have qr := hx.keep cr
        refine ⟨rfl, .bool rt, W, ?_, rfl, Ext.refl _⟩
        simp [ev18, qr, execOp, go_sem]
      · refine softR_val 20 _ (by kernel_rfl) rfl rfl ?_
        intro a W hx hout hdep
        have ev6 : a.tmps[6]?.getD undef = .pointer po := by rw [← Array.getD_eq_getD_getElem?]; exact hout 6 (by show 6 ∉ [16, 17, 18, 19, 20, 21, 22, 23, 24]; decide)
        refine ⟨rfl, .pointer po, W, ?_, rfl, Ext.refl _⟩
        simp [ev6, execOp, go_sem]
      · refine softR_call 21 _ (by kernel_rfl) rfl rfl ?_
        intro a W hx hout hdep
        have ev20 : a.tmps[20]?.getD undef = .pointer po := by rw [← Array.getD_eq_getD_getElem?]; exact (hdep ⟨4, .data⟩ (by simp) rfl 20 _ rfl).1
        refine ⟨rfl, 56, #[.pointer po], ?_, ?_⟩
        · simp [ev20, execOp, go_sem]
        · exact (hdp.out W hx).mono (by rintro e W2 ⟨rfl, rfl⟩; exact ⟨_, rfl, rfl, Ext.refl _⟩)
      · refine softR_val 22 _ (by kernel_rfl) rfl rfl ?_
        intro a W hx hout hdep
        have ev21 : a.tmps[21]?.getD undef = Vi (dn : Int) := by rw [← Array.getD_eq_getD_getElem?]; exact (hdep ⟨5, .data⟩ (by simp) rfl 21 _ rfl).1
        have hw5 : IntKind.i64.wrap ((dn : Int) + 1) = (dn : Int) + 1 := IntWalk.i64_in _ (by omega)
        refine ⟨rfl, Vi ((dn : Int) + 1), W, ?_, rfl, Ext.refl _⟩
        simp [ev21, hw5, execOp, go_sem]
      · refine softR_val 23 _ (by kernel_rfl) rfl rfl ?_
        intro a W hx hout hdep
        have ev6 : a.tmps[6]?.getD undef = .pointer po := by rw [← Array.getD_eq_getD_getElem?]; exact hout 6 (by show 6 ∉ [16, 17, 18, 19, 20, 21, 22, 23, 24]; decide)
        refine ⟨rfl, .pointer po, W, ?_, rfl, Ext.refl _⟩
        simp [ev6, execOp, go_sem]
      · refine softR_call 24 _ (by kernel_rfl) rfl rfl ?_
        intro a W hx hout hdep
        have ev23 : a.tmps[23]?.getD undef = .pointer po := by rw [← Array.getD_eq_getD_getElem?]; exact (hdep ⟨7, .data⟩ (by simp) rfl 23 _ rfl).1
        refine ⟨rfl, 57, #[.pointer po], ?_, ?_⟩
        · simp [ev23, execOp, go_sem]
        · exact (hff.out W hx).mono (by rintro e W2 ⟨⟨f, r, h1, h2, rfl⟩, h3⟩; exact ⟨_, rfl, ⟨f, rfl, h1, r, h2⟩, h3⟩)
  · refine softR_val 7 _ (by kernel_rfl) rfl rfl ?_
    intro a W hx hout hdep
    have ev2 : a.tmps[2]?.getD undef = .pointer (some ⟨pb, 0, none⟩) := by rw [← Array.getD_eq_getD_getElem?]; exact hout 2 (by show 2 ∉ [7, 8, 9, 10, 11, 5]; decide)
    have q0 := hx.keep b0
    have q1 := hx.keep b1
    have q2 := hx.keep b2
    have q3 := hx.keep b3
    have q4 := hx.keep b4
    have q5 := hx.keep b5
    have q6 := hx.keep b6
    refine ⟨rfl, itv x, W, ?_, rfl, Ext.refl _⟩
    simp [ev2, q0, q1, q2, q3, q4, q5, q6, execOp, go_sem]
  · refine softR_val 8 _ (by kernel_rfl) rfl rfl ?_
    intro a W hx hout hdep
    have ev1 : a.tmps[1]?.getD undef = .pointer y.p := by rw [← Array.getD_eq_getD_getElem?]; exact hout 1 (by show 1 ∉ [7, 8, 9, 10, 11, 5]; decide)
    refine ⟨rfl, .pointer y.p, W, ?_, rfl, Ext.refl _⟩
    simp [ev1, execOp, go_sem]
  · refine softR_call 9 _ (by kernel_rfl) rfl rfl ?_
    intro a W hx hout hdep
    have ev7 : a.tmps[7]?.getD undef = itv x := by rw [← Array.getD_eq_getD_getElem?]; exact (hdep ⟨0, .data⟩ (by simp) rfl 7 _ rfl).1
    have ev8 : a.tmps[8]?.getD undef = .pointer y.p := by rw [← Array.getD_eq_getD_getElem?]; exact (hdep ⟨1, .data⟩ (by simp) rfl 8 _ rfl).1
    refine ⟨rfl, 55, #[itv x, .pointer y.p], ?_, ?_⟩
    · simp [ev7, ev8, execOp, go_sem]
    · exact (hnb.out W hx).mono (by rintro e W2 ⟨v, rfl, h1, h2⟩; exact ⟨v, rfl, ⟨v, rfl, h1.down hx⟩, h2⟩)
  · refine softR_val 10 _ (by kernel_rfl) rfl rfl ?_
    intro a W hx hout hdep
    have ev2 : a.tmps[2]?.getD undef = .pointer (some ⟨pb, 0, none⟩) := by rw [← Array.getD_eq_getD_getElem?]; exact hout 2 (by show 2 ∉ [7, 8, 9, 10, 11, 5]; decide)
    have q0 := hx.keep b0
    have q1 := hx.keep b1
    have q2 := hx.keep b2
    have q3 := hx.keep b3
    have q4 := hx.keep b4
    have q5 := hx.keep b5
    have q6 := hx.keep b6
    refine ⟨rfl, itv x, W, ?_, rfl, Ext.refl _⟩
    simp [ev2, q0, q1, q2, q3, q4, q5, q6, execOp, go_sem]
  · refine softR_call 11 _ (by kernel_rfl) rfl rfl ?_
    intro a W hx hout hdep
    have tl9 := (hdep ⟨2, .data⟩ (by simp) rfl 9 _ rfl).1
    have ev10 : a.tmps[10]?.getD undef = itv x := by rw [← Array.getD_eq_getD_getElem?]; exact (hdep ⟨3, .data⟩ (by simp) rfl 10 _ rfl).1
    obtain ⟨v9, e9, o9⟩ := tl9
    have ev9 : a.tmps[9]?.getD undef = v9 := by rw [← Array.getD_eq_getD_getElem?]; exact e9
    obtain ⟨A9, c9, rfl, hc9, hi9⟩ := o9.open
    refine ⟨rfl, 54, #[.slice A9 (nbs L x).length c9, itv x], ?_, ?_⟩
    · simp [ev10, execOp, go_sem, ev9]
    · exact (hpl.out W A9 _ c9 hi9 rfl hc9).mono fun e W2 h => ⟨_, h.1, rfl, h.2⟩
  · refine softR_val 5 _ (by kernel_rfl) rfl rfl ?_
    intro a W hx hout hdep
    refine ⟨rfl, .pointer (some ⟨W.heap.size, 0, none⟩), W.alloc (.cells #[Vu 0, Vu 0, .bool false] 114), ?_, ⟨_, rfl, hx.size, heap_alloc_new W _⟩, (Ext.refl W).alloc _⟩
    simp [execOp, go_sem]

end Go.Proofs.Ytmpomammieenjaa
