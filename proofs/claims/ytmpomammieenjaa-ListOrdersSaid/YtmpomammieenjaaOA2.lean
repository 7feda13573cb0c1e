/-
  Several texts of this seat in one file, each in the namespace again; no claim stands here.
-/
import Derived.Deep.DeepCutAuto
import Derived.Deep.LoopGhost
import Derived.Test.YtmpomammieenjaaOZ
import Derived.Test.YtmpomammieenjaaOS
import Derived.Test.YtmpomammieenjaaOU
import Derived.Test.YtmpomammieenjaaOT
import Derived.Test.YtmpomammieenjaaOV
namespace Go.Proofs.Ytmpomammieenjaa
open Go.ChangeShapes Go.WideShapes Go.ChangeAt Go.RowKit Go.Sort
set_option linter.unusedVariables false
set_option linter.unusedSimpArgs false
attribute [local go_sem] World.cell?_alloc_some

theorem st8_row {w : World} {b : Nat} {a0 a1 a2 a3 a4 a5 a6 a7 : Value} {T : TypeId} (h : w.heap[b]? = some (.cells #[a0, a1, a2, a3, a4, a5, a6, a7] T (0, 0))) (v0 v1 v2 v3 v4 v5 v6 v7 : Value) :
    (((((((((w).setCell ⟨b, 0, none⟩ v0).setCell ⟨b, 1, none⟩ v1).setCell ⟨b, 2, none⟩ v2).setCell ⟨b, 3, none⟩ v3).setCell ⟨b, 4, none⟩ v4).setCell ⟨b, 5, none⟩ v5).setCell ⟨b, 6, none⟩ v6).setCell ⟨b, 7, none⟩ v7).heap[b]? = some (.cells #[v0, v1, v2, v3, v4, v5, v6, v7] T (0, 0)) :=
  by
  have h0 : ((w).setCell ⟨b, 0, none⟩ v0).heap[b]? = some (.cells #[v0, a1, a2, a3, a4, a5, a6, a7] T (0, 0)) := heap_setCell_same _ _ 0 _ _ _ h
  have h1 : (((w).setCell ⟨b, 0, none⟩ v0).setCell ⟨b, 1, none⟩ v1).heap[b]? = some (.cells #[v0, v1, a2, a3, a4, a5, a6, a7] T (0, 0)) := heap_setCell_same _ _ 1 _ _ _ h0
  have h2 : ((((w).setCell ⟨b, 0, none⟩ v0).setCell ⟨b, 1, none⟩ v1).setCell ⟨b, 2, none⟩ v2).heap[b]? = some (.cells #[v0, v1, v2, a3, a4, a5, a6, a7] T (0, 0)) := heap_setCell_same _ _ 2 _ _ _ h1
  have h3 : (((((w).setCell ⟨b, 0, none⟩ v0).setCell ⟨b, 1, none⟩ v1).setCell ⟨b, 2, none⟩ v2).setCell ⟨b, 3, none⟩ v3).heap[b]? = some (.cells #[v0, v1, v2, v3, a4, a5, a6, a7] T (0, 0)) := heap_setCell_same _ _ 3 _ _ _ h2
  have h4 : ((((((w).setCell ⟨b, 0, none⟩ v0).setCell ⟨b, 1, none⟩ v1).setCell ⟨b, 2, none⟩ v2).setCell ⟨b, 3, none⟩ v3).setCell ⟨b, 4, none⟩ v4).heap[b]? = some (.cells #[v0, v1, v2, v3, v4, a5, a6, a7] T (0, 0)) := heap_setCell_same _ _ 4 _ _ _ h3
  have h5 : (((((((w).setCell ⟨b, 0, none⟩ v0).setCell ⟨b, 1, none⟩ v1).setCell ⟨b, 2, none⟩ v2).setCell ⟨b, 3, none⟩ v3).setCell ⟨b, 4, none⟩ v4).setCell ⟨b, 5, none⟩ v5).heap[b]? = some (.cells #[v0, v1, v2, v3, v4, v5, a6, a7] T (0, 0)) := heap_setCell_same _ _ 5 _ _ _ h4
  have h6 : ((((((((w).setCell ⟨b, 0, none⟩ v0).setCell ⟨b, 1, none⟩ v1).setCell ⟨b, 2, none⟩ v2).setCell ⟨b, 3, none⟩ v3).setCell ⟨b, 4, none⟩ v4).setCell ⟨b, 5, none⟩ v5).setCell ⟨b, 6, none⟩ v6).heap[b]? = some (.cells #[v0, v1, v2, v3, v4, v5, v6, a7] T (0, 0)) := heap_setCell_same _ _ 6 _ _ _ h5
  have h7 : (((((((((w).setCell ⟨b, 0, none⟩ v0).setCell ⟨b, 1, none⟩ v1).setCell ⟨b, 2, none⟩ v2).setCell ⟨b, 3, none⟩ v3).setCell ⟨b, 4, none⟩ v4).setCell ⟨b, 5, none⟩ v5).setCell ⟨b, 6, none⟩ v6).setCell ⟨b, 7, none⟩ v7).heap[b]? = some (.cells #[v0, v1, v2, v3, v4, v5, v6, v7] T (0, 0)) := heap_setCell_same _ _ 7 _ _ _ h6
  exact h7
theorem st8_other {w : World} {b q : Nat} (hne : q ≠ b) (v0 v1 v2 v3 v4 v5 v6 v7 : Value) : (((((((((w).setCell ⟨b, 0, none⟩ v0).setCell ⟨b, 1, none⟩ v1).setCell ⟨b, 2, none⟩ v2).setCell ⟨b, 3, none⟩ v3).setCell ⟨b, 4, none⟩ v4).setCell ⟨b, 5, none⟩ v5).setCell ⟨b, 6, none⟩ v6).setCell ⟨b, 7, none⟩ v7).heap[q]? = w.heap[q]? := by
  rw [heap_setCell_other _ _ _ _ hne, heap_setCell_other _ _ _ _ hne, heap_setCell_other _ _ _ _ hne, heap_setCell_other _ _ _ _ hne, heap_setCell_other _ _ _ _ hne, heap_setCell_other _ _ _ _ hne, heap_setCell_other _ _ _ _ hne, heap_setCell_other _ _ _ _ hne]
theorem Ext.st8 {w0 w : World} {b : Nat} (h : Ext w0 w) (hb : w0.heap.size ≤ b) (v0 v1 v2 v3 v4 v5 v6 v7 : Value) : Ext w0 (((((((((w).setCell ⟨b, 0, none⟩ v0).setCell ⟨b, 1, none⟩ v1).setCell ⟨b, 2, none⟩ v2).setCell ⟨b, 3, none⟩ v3).setCell ⟨b, 4, none⟩ v4).setCell ⟨b, 5, none⟩ v5).setCell ⟨b, 6, none⟩ v6).setCell ⟨b, 7, none⟩ v7) :=
  ((((((((h.setCell (p := ⟨b, 0, none⟩) hb v0).setCell (p := ⟨b, 1, none⟩) hb v1).setCell (p := ⟨b, 2, none⟩) hb v2).setCell (p := ⟨b, 3, none⟩) hb v3).setCell (p := ⟨b, 4, none⟩) hb v4).setCell (p := ⟨b, 5, none⟩) hb v5).setCell (p := ⟨b, 6, none⟩) hb v6).setCell (p := ⟨b, 7, none⟩) hb v7)
theorem AtP.form {G : Nat → Prop} {W : World} {b : Nat} {t : Tr} (h : AtP G W b t) : ∃ A n c lp rp, PtC W b (.slice A n c) (.pointer lp) (.pointer rp) (htT t) (cnt t) (shw t) (loT t) (hiT t) ∧ PV G W t (.slice A n c) (.pointer lp) (.pointer rp) := by
  obtain ⟨_, c, l, r, x, v⟩ := h
  cases t with
  | leaf l0 =>
    obtain ⟨rfl, rfl, A, cap, rfl, h4, h5, h6⟩ := v
    exact ⟨A, l0.length, cap, none, none, x, rfl, rfl, A, cap, rfl, h4, h5, h6⟩
  | node ta tb =>
    obtain ⟨rfl, p, q, rfl, rfl, hp, hq⟩ := v.node
    exact ⟨none, 0, 0, some ⟨p, 0, none⟩, some ⟨q, 0, none⟩, x, PV.of_node hp hq⟩
theorem ix_of {G : Nat → Prop} {w3 w4 : World} {t : Tr} {l : List En} {A : Option Addr} {n c : Nat} {lp rp : Option Addr} (hv : PV G w3 t (.slice A n c) (.pointer lp) (.pointer rp)) (hE : ents t = l) (hok : t = .leaf [] ∨ okR t)
    (hf : ∀ b, G b → w4.heap[b]? = w3.heap[b]?) (hs : w3.heap.size ≤ w4.heap.size) : Ix (fun b => G b ∧ b < w3.heap.size) w4 (.agg #[.slice A n c, .pointer lp, .pointer rp, Vi (htT t), Vi (cnt t), Vi (shw t), Vq (loT t), Vq (hiT t)]) l :=
  ⟨t, ⟨A, n, c, lp, rp, htT t, cnt t, shw t, loT t, hiT t⟩, rfl, hE, hok, rfl, rfl, rfl, rfl, rfl, (hv.lt).frame (fun b hb => hf b hb.1), fun b hb => Nat.lt_of_lt_of_le hb.2 hs⟩
theorem st8_size {w : World} {b : Nat} (v0 v1 v2 v3 v4 v5 v6 v7 : Value) : (((((((((w).setCell ⟨b, 0, none⟩ v0).setCell ⟨b, 1, none⟩ v1).setCell ⟨b, 2, none⟩ v2).setCell ⟨b, 3, none⟩ v3).setCell ⟨b, 4, none⟩ v4).setCell ⟨b, 5, none⟩ v5).setCell ⟨b, 6, none⟩ v6).setCell ⟨b, 7, none⟩ v7).heap.size = w.heap.size := by simp [World.setCell]

set_option maxRecDepth 100000 in
set_option maxHeartbeats 16000000 in
theorem put_ix {F : Nat → Prop} (W : World) (v : Value) (l : List En) (p : Nat) (x : En) (h : Ix F W v l) (hl : l.length ≤ 999) (hp : p ≤ l.length) (hno : hasE l x.c x.k = false) :
    Calls Try.prog 34 #[v, Vi (p : Int), env x] W fun e w' => ∃ F' v', e = .returned (.tuple #[v', .nilIface]) ∧ Ix F' w' v' (putE l p x) ∧ (∀ b, F' b → F b ∨ W.heap.size ≤ b) ∧ Ext W w' := by
  obtain ⟨G, hG⟩ : ∃ G : Nat → Prop, G = (fun b => F b ∨ b = W.heap.size ∨ W.heap.size + 3 ≤ b) := ⟨_, rfl⟩
  have hF0 : ∀ b, F b → G b := fun b hb => by rw [hG]; exact .inl hb
  have hG0 : G W.heap.size := by rw [hG]; exact .inr (.inl rfl)
  have h' := h
  obtain ⟨t, A, n, c, lp, rp, rfl, hE, hok, hFl, hbox⟩ := h.box
  have hcn : cnt t = l.length := by rw [← hE]; rfl
  have x1 : Ext W (W.alloc (.cells #[.slice A n c, .pointer lp, .pointer rp, Vi (htT t), Vi (cnt t), Vi (shw t), Vq (loT t), Vq (hiT t)] 30)) := (Ext.refl W).alloc _
  have hA := hbox G _ hF0 hG0 (Ext.refl _)
  obtain ⟨W1, hW1⟩ : ∃ Z, W.alloc (.cells #[.slice A n c, .pointer lp, .pointer rp, Vi (htT t), Vi (cnt t), Vi (shw t), Vq (loT t), Vq (hiT t)] 30) = Z := ⟨_, rfl⟩
  obtain ⟨pb, hpb⟩ : ∃ z, W.heap.size = z := ⟨_, rfl⟩
  have hs1 : W1.heap.size = pb + 1 := by rw [← hW1, ← hpb]; simp
  rw [hW1] at hA x1
  rw [hpb] at hA
  have x2 : Ext W1 (W1.alloc (.cells #[.int .u32 x.c, .int .u32 x.k, .int .i32 x.ch, .bool x.g] 79)) := (Ext.refl W1).alloc _
  have y0 : (W1.alloc (.cells #[.int .u32 x.c, .int .u32 x.k, .int .i32 x.ch, .bool x.g] 79)).heap[pb + 1]? = some (.cells #[.int .u32 x.c, .int .u32 x.k, .int .i32 x.ch, .bool x.g] 79 (0, 0)) := by rw [← hs1]; exact heap_alloc_new W1 _
  obtain ⟨W2, hW2⟩ : ∃ Z, W1.alloc (.cells #[.int .u32 x.c, .int .u32 x.k, .int .i32 x.ch, .bool x.g] 79) = Z := ⟨_, rfl⟩
  have hs2 : W2.heap.size = pb + 1 + 1 := by rw [← hW2, ← hs1]; simp
  rw [hW2] at x2 y0
  have x3 : Ext W2 (W2.alloc (.cells #[.slice none 0 0, .pointer none, .pointer none, Vi 0, Vi 0, Vi 0, Vq 0, Vq 0] 30)) := (Ext.refl W2).alloc _
  have hr0 : (W2.alloc (.cells #[.slice none 0 0, .pointer none, .pointer none, Vi 0, Vi 0, Vi 0, Vq 0, Vq 0] 30)).heap[pb + 2]? = some (.cells #[.slice none 0 0, .pointer none, .pointer none, Vi 0, Vi 0, Vi 0, Vq 0, Vq 0] 30 (0, 0)) := by rw [show pb + 2 = W2.heap.size by omega]; exact heap_alloc_new W2 _
  obtain ⟨W3, hW3⟩ : ∃ Z, W2.alloc (.cells #[.slice none 0 0, .pointer none, .pointer none, Vi 0, Vi 0, Vi 0, Vq 0, Vq 0] 30) = Z := ⟨_, rfl⟩
  have hs3 : W3.heap.size = pb + 3 := by rw [← hW3, show pb + 3 = W2.heap.size + 1 by omega]; simp
  rw [hW3] at x3 hr0
  have hX3 := (x1.trans x2).trans x3
  have hA := (hA.ext x2).ext x3
  have y3 := (RowKit.Below.block x3 (pb + 1) (Array.getElem?_eq_some_iff.1 y0).1).trans y0
  obtain ⟨rb, hrb⟩ : ∃ z, pb + 2 = z := ⟨_, rfl⟩
  rw [hrb] at hr0
  have hge : W.heap.size ≤ rb := by omega
  have hGn : ∀ b, G b → b ≠ rb := fun b hb e => by
    rw [hG] at hb
    rcases hb with hb | hb | hb
    · have := hFl b hb; omega
    · omega
    · omega
  have hUp : Up G W3 := fun b hb => by rw [hG]; exact .inr (.inr (by omega))
  have hFs : ∀ b, G b → F b ∨ W.heap.size ≤ b := fun b hb => by
    rw [hG] at hb
    rcases hb with hb | hb | hb
    · exact .inl hb
    · exact .inr (by omega)
    · exact .inr (by omega)
  have hbx : PtC W3 pb (.slice A n c) (.pointer lp) (.pointer rp) (htT t) (cnt t) (shw t) (loT t) (hiT t) := by
    have := (PtC.new W (.slice A n c) (.pointer lp) (.pointer rp) (htT t) (cnt t) (shw t) (loT t) (hiT t) 30)
    rw [hW1, hpb] at this
    exact (this.ext x2).ext x3
  have e0 := cell_of_row W3 (pb + 1) 0 _ _ _ y3
  have e1 := cell_of_row W3 (pb + 1) 1 _ _ _ y3
  have e2 := cell_of_row W3 (pb + 1) 2 _ _ _ y3
  have e3 := cell_of_row W3 (pb + 1) 3 _ _ _ y3
  have g1 : decide ((p : Int) < 0) = false := by rw [decide_eq_false_iff_not]; omega
  have g2 : decide ((cnt t : Int) < (p : Int)) = false := by rw [decide_eq_false_iff_not]; omega
  have g3 : decide (cnt t < p) = false := by rw [decide_eq_false_iff_not]; omega
  have hfv : fndE l x.c x.k = 0 ∧ fndB l x.c x.k = false := by
    have := find_none.2 hno
    unfold fndE fndB
    rw [this]
    exact ⟨rfl, rfl⟩
  have hfi := find_ix W3 _ l x.c x.k (h'.ext hX3) (by omega)
  rw [hfv.1, hfv.2] at hfi
  replace hfi := Lib.hid hfi
  have hput := Lib.hid (fun Z (hx : Ext W3 Z) => put_any x t pb p Z (hA.ext hx) (hUp.ext hx) hok (by omega) (by omega))
  have hent3 : ents (putTr t p x) = putE l p x := by rw [putTr_ents t p x (by omega), hE]
  have hok3 : putTr t p x = .leaf [] ∨ okR (putTr t p x) := .inr (putTr_ok t p x hok)
  obtain ⟨p0, p1, p2, p3, p4, p5, p6, p7⟩ := hbx
  clear hA hbox h h' hfv hno hG hF0 hG0 x1 x2 x3 y0 hs1 hs2 hs3 y3
  replace hW1 := Lib.hid hW1
  replace hW2 := Lib.hid hW2
  replace hW3 := Lib.hid hW3
  replace hpb := Lib.hid hpb
  replace hrb := Lib.hid hrb
  replace hcn := Lib.hid hcn
  go_enter Try.func34, Try.ntmps34
  go_wp2_with fail
  rw [hW1.out, hpb.out, hW2.out, hW3.out, hrb.out]
  refine hfi.out.mono ?_
  rintro e w4 ⟨rfl, x4⟩
  have e0 := x4.keep e0
  have e1 := x4.keep e1
  have e2 := x4.keep e2
  have e3 := x4.keep e3
  clear p0 p1 p2 p3 p4 p5 p6 p7
  go_wp2_with fail
  refine (hput.out _ x4).mono ?_
  rintro e w3 ⟨v3, rfl, ⟨q3, rfl, hA3⟩, x5⟩
  have hXa := (hX3.trans x4).trans x5
  have hrz := (RowKit.Below.block (x4.trans x5) rb (Array.getElem?_eq_some_iff.1 hr0).1).trans hr0
  have hFn : ∀ b, (G b ∧ b < w3.heap.size) → F b ∨ W.heap.size ≤ b := fun b hb => hFs b hb.1
  obtain ⟨T9, hT9⟩ : ∃ z, putTr t p x = z := ⟨_, rfl⟩
  rw [hT9] at hA3 hent3 hok3
  clear hT9
  obtain ⟨A3, n3, c3, l3, r3, ⟨d0, d1, d2, d3, d4, d5, d6, d7⟩, hv3⟩ := hA3.form
  have k0 := cell_of_row w3 rb 0 _ _ _ hrz
  have f0 := frozen_of_row w3 rb 0 _ _ hrz
  have k1 := cell_of_row w3 rb 1 _ _ _ hrz
  have f1 := frozen_of_row w3 rb 1 _ _ hrz
  have k2 := cell_of_row w3 rb 2 _ _ _ hrz
  have f2 := frozen_of_row w3 rb 2 _ _ hrz
  have k3 := cell_of_row w3 rb 3 _ _ _ hrz
  have f3 := frozen_of_row w3 rb 3 _ _ hrz
  have k4 := cell_of_row w3 rb 4 _ _ _ hrz
  have f4 := frozen_of_row w3 rb 4 _ _ hrz
  have k5 := cell_of_row w3 rb 5 _ _ _ hrz
  have f5 := frozen_of_row w3 rb 5 _ _ hrz
  have k6 := cell_of_row w3 rb 6 _ _ _ hrz
  have f6 := frozen_of_row w3 rb 6 _ _ hrz
  have k7 := cell_of_row w3 rb 7 _ _ _ hrz
  have f7 := frozen_of_row w3 rb 7 _ _ hrz
  have hz := st8_row hrz (.slice A3 n3 c3) (.pointer l3) (.pointer r3) (Vi (htT T9)) (Vi (cnt T9)) (Vi (shw T9)) (Vq (loT T9)) (Vq (hiT T9))
  have hx4 := Ext.st8 hXa hge (.slice A3 n3 c3) (.pointer l3) (.pointer r3) (Vi (htT T9)) (Vi (cnt T9)) (Vi (shw T9)) (Vq (loT T9)) (Vq (hiT T9))
  have hfr := fun (q : Nat) (hq : q ≠ rb) => st8_other (w := w3) hq (.slice A3 n3 c3) (.pointer l3) (.pointer r3) (Vi (htT T9)) (Vi (cnt T9)) (Vi (shw T9)) (Vq (loT T9)) (Vq (hiT T9))
  have hsz4 := st8_size (w := w3) (b := rb) (.slice A3 n3 c3) (.pointer l3) (.pointer r3) (Vi (htT T9)) (Vi (cnt T9)) (Vi (shw T9)) (Vq (loT T9)) (Vq (hiT T9))
  have hix := Lib.hid (ix_of hv3 hent3 hok3 (fun b hb => hfr b (hGn b hb)) (Nat.le_of_eq hsz4.symm))
  clear hfr hv3
  go_wp2
  have z0 := cell_of_row _ rb 0 _ _ _ hz
  have z1 := cell_of_row _ rb 1 _ _ _ hz
  have z2 := cell_of_row _ rb 2 _ _ _ hz
  have z3 := cell_of_row _ rb 3 _ _ _ hz
  have z4 := cell_of_row _ rb 4 _ _ _ hz
  have z5 := cell_of_row _ rb 5 _ _ _ hz
  have z6 := cell_of_row _ rb 6 _ _ _ hz
  have z7 := cell_of_row _ rb 7 _ _ _ hz
  exact bodyPost_ret (v := .tuple #[.agg #[.slice A3 n3 c3, .pointer l3, .pointer r3, Vi (htT T9), Vi (cnt T9), Vi (shw T9), Vq (loT T9), Vq (hiT T9)], .nilIface]) (by simp [results, Try.results34, go_sem, z0, z1, z2, z3, z4, z5, z6, z7]) rfl ⟨_, _, rfl, hix.out, hFn, hx4⟩
set_option maxRecDepth 100000 in
set_option maxHeartbeats 16000000 in
theorem hideNo_ix {F : Nat → Prop} (W : World) (v : Value) (l : List En) (c0 k0 : Int) (h : Ix F W v l) (hl : l.length ≤ 1000) (hno : findE l c0 k0 = none) :
    Calls Try.prog 27 #[v, idv c0 k0] W fun e w' => e = .returned (.tuple #[zeroX, errv 1]) ∧ Ext W w' := by
  obtain ⟨G, hG⟩ : ∃ G : Nat → Prop, G = (fun b => F b ∨ b = W.heap.size ∨ W.heap.size + 3 ≤ b) := ⟨_, rfl⟩
  have hF0 : ∀ b, F b → G b := fun b hb => by rw [hG]; exact .inl hb
  have hG0 : G W.heap.size := by rw [hG]; exact .inr (.inl rfl)
  have h' := h
  obtain ⟨t, A, n, c, lp, rp, rfl, hE, hok, hFl, hbox⟩ := h.box
  have hcn : cnt t = l.length := by rw [← hE]; rfl
  have x1 : Ext W (W.alloc (.cells #[.slice A n c, .pointer lp, .pointer rp, Vi (htT t), Vi (cnt t), Vi (shw t), Vq (loT t), Vq (hiT t)] 30)) := (Ext.refl W).alloc _
  have hA := hbox G _ hF0 hG0 (Ext.refl _)
  obtain ⟨W1, hW1⟩ : ∃ Z, W.alloc (.cells #[.slice A n c, .pointer lp, .pointer rp, Vi (htT t), Vi (cnt t), Vi (shw t), Vq (loT t), Vq (hiT t)] 30) = Z := ⟨_, rfl⟩
  obtain ⟨pb, hpb⟩ : ∃ z, W.heap.size = z := ⟨_, rfl⟩
  have hs1 : W1.heap.size = pb + 1 := by rw [← hW1, ← hpb]; simp
  rw [hW1] at hA x1
  rw [hpb] at hA
  have x2 : Ext W1 (W1.alloc (.cells #[.int .u32 c0, .int .u32 k0] 41)) := (Ext.refl W1).alloc _
  have y0 : (W1.alloc (.cells #[.int .u32 c0, .int .u32 k0] 41)).heap[pb + 1]? = some (.cells #[.int .u32 c0, .int .u32 k0] 41 (0, 0)) := by rw [← hs1]; exact heap_alloc_new W1 _
  obtain ⟨W2, hW2⟩ : ∃ Z, W1.alloc (.cells #[.int .u32 c0, .int .u32 k0] 41) = Z := ⟨_, rfl⟩
  have hs2 : W2.heap.size = pb + 1 + 1 := by rw [← hW2, ← hs1]; simp
  rw [hW2] at x2 y0
  have x3 : Ext W2 (W2.alloc (.cells #[.slice none 0 0, .pointer none, .pointer none, Vi 0, Vi 0, Vi 0, Vq 0, Vq 0] 30)) := (Ext.refl W2).alloc _
  have hr0 : (W2.alloc (.cells #[.slice none 0 0, .pointer none, .pointer none, Vi 0, Vi 0, Vi 0, Vq 0, Vq 0] 30)).heap[pb + 2]? = some (.cells #[.slice none 0 0, .pointer none, .pointer none, Vi 0, Vi 0, Vi 0, Vq 0, Vq 0] 30 (0, 0)) := by rw [show pb + 2 = W2.heap.size by omega]; exact heap_alloc_new W2 _
  obtain ⟨W3, hW3⟩ : ∃ Z, W2.alloc (.cells #[.slice none 0 0, .pointer none, .pointer none, Vi 0, Vi 0, Vi 0, Vq 0, Vq 0] 30) = Z := ⟨_, rfl⟩
  have hs3 : W3.heap.size = pb + 3 := by rw [← hW3, show pb + 3 = W2.heap.size + 1 by omega]; simp
  rw [hW3] at x3 hr0
  have hX3 := (x1.trans x2).trans x3
  have hA := (hA.ext x2).ext x3
  have y3 := (RowKit.Below.block x3 (pb + 1) (Array.getElem?_eq_some_iff.1 y0).1).trans y0
  obtain ⟨rb, hrb⟩ : ∃ z, pb + 2 = z := ⟨_, rfl⟩
  rw [hrb] at hr0
  have hge : W.heap.size ≤ rb := by omega
  have hbx : PtC W3 pb (.slice A n c) (.pointer lp) (.pointer rp) (htT t) (cnt t) (shw t) (loT t) (hiT t) := by
    have := (PtC.new W (.slice A n c) (.pointer lp) (.pointer rp) (htT t) (cnt t) (shw t) (loT t) (hiT t) 30)
    rw [hW1, hpb] at this
    exact (this.ext x2).ext x3
  have e0 := cell_of_row W3 (pb + 1) 0 _ _ _ y3
  have e1 := cell_of_row W3 (pb + 1) 1 _ _ _ y3
  have hfv : fndE l c0 k0 = 0 ∧ fndB l c0 k0 = false := by
    unfold fndE fndB
    rw [hno]
    exact ⟨rfl, rfl⟩
  have hfi := find_ix W3 _ l c0 k0 (h'.ext hX3) (by omega)
  rw [hfv.1, hfv.2] at hfi
  replace hfi := Lib.hid hfi
  obtain ⟨p0, p1, p2, p3, p4, p5, p6, p7⟩ := hbx
  clear hfv hno
  clear hA hbox h h' hG hF0 hG0 x1 x2 x3 y0 hs1 hs2 hs3 y3
  replace hW1 := Lib.hid hW1
  replace hW2 := Lib.hid hW2
  replace hW3 := Lib.hid hW3
  replace hpb := Lib.hid hpb
  replace hrb := Lib.hid hrb
  replace hcn := Lib.hid hcn
  go_enter Try.func27, Try.ntmps27
  go_wp2_with fail
  rw [hW1.out, hpb.out, hW2.out, hW3.out, hrb.out]
  refine hfi.out.mono ?_
  rintro e w3 ⟨rfl, x4⟩
  have hXa := hX3.trans x4
  have hrz := (RowKit.Below.block x4 rb (Array.getElem?_eq_some_iff.1 hr0).1).trans hr0
  clear p0 p1 p2 p3 p4 p5 p6 p7 e0 e1
  have k0 := cell_of_row w3 rb 0 _ _ _ hrz
  have f0 := frozen_of_row w3 rb 0 _ _ hrz
  have k1 := cell_of_row w3 rb 1 _ _ _ hrz
  have f1 := frozen_of_row w3 rb 1 _ _ hrz
  have k2 := cell_of_row w3 rb 2 _ _ _ hrz
  have f2 := frozen_of_row w3 rb 2 _ _ hrz
  have k3 := cell_of_row w3 rb 3 _ _ _ hrz
  have f3 := frozen_of_row w3 rb 3 _ _ hrz
  have k4 := cell_of_row w3 rb 4 _ _ _ hrz
  have f4 := frozen_of_row w3 rb 4 _ _ hrz
  have k5 := cell_of_row w3 rb 5 _ _ _ hrz
  have f5 := frozen_of_row w3 rb 5 _ _ hrz
  have k6 := cell_of_row w3 rb 6 _ _ _ hrz
  have f6 := frozen_of_row w3 rb 6 _ _ hrz
  have k7 := cell_of_row w3 rb 7 _ _ _ hrz
  have f7 := frozen_of_row w3 rb 7 _ _ hrz
  have hz := st8_row hrz (.slice none 0 0) (.pointer none) (.pointer none) (Vi 0) (Vi 0) (Vi 0) (Vq 0) (Vq 0)
  have hx4 := Ext.st8 hXa hge (.slice none 0 0) (.pointer none) (.pointer none) (Vi 0) (Vi 0) (Vi 0) (Vq 0) (Vq 0)
  go_wp2
  have z0 := cell_of_row _ rb 0 _ _ _ hz
  have z1 := cell_of_row _ rb 1 _ _ _ hz
  have z2 := cell_of_row _ rb 2 _ _ _ hz
  have z3 := cell_of_row _ rb 3 _ _ _ hz
  have z4 := cell_of_row _ rb 4 _ _ _ hz
  have z5 := cell_of_row _ rb 5 _ _ _ hz
  have z6 := cell_of_row _ rb 6 _ _ _ hz
  have z7 := cell_of_row _ rb 7 _ _ _ hz
  exact bodyPost_ret (v := .tuple #[zeroX, errv 1]) (by simp [results, Try.results27, go_sem, errv, z0, z1, z2, z3, z4, z5, z6, z7]) rfl ⟨rfl, hx4⟩
set_option maxRecDepth 100000 in
set_option maxHeartbeats 16000000 in
theorem hide_ix {F : Nat → Prop} (W : World) (v : Value) (l : List En) (c0 k0 : Int) (q : Nat) (h : Ix F W v l) (hl : l.length ≤ 1000) (hap : apart l = true) (hq : findE l c0 k0 = some q) :
    Calls Try.prog 27 #[v, idv c0 k0] W fun e w' => ∃ F' v', e = .returned (.tuple #[v', .nilIface]) ∧ Ix F' w' v' (hideE l c0 k0) ∧ (∀ b, F' b → F b ∨ W.heap.size ≤ b) ∧ Ext W w' := by
  obtain ⟨G, hG⟩ : ∃ G : Nat → Prop, G = (fun b => F b ∨ b = W.heap.size ∨ W.heap.size + 3 ≤ b) := ⟨_, rfl⟩
  have hF0 : ∀ b, F b → G b := fun b hb => by rw [hG]; exact .inl hb
  have hG0 : G W.heap.size := by rw [hG]; exact .inr (.inl rfl)
  have h' := h
  obtain ⟨t, A, n, c, lp, rp, rfl, hE, hok, hFl, hbox⟩ := h.box
  have hcn : cnt t = l.length := by rw [← hE]; rfl
  have x1 : Ext W (W.alloc (.cells #[.slice A n c, .pointer lp, .pointer rp, Vi (htT t), Vi (cnt t), Vi (shw t), Vq (loT t), Vq (hiT t)] 30)) := (Ext.refl W).alloc _
  have hA := hbox G _ hF0 hG0 (Ext.refl _)
  obtain ⟨W1, hW1⟩ : ∃ Z, W.alloc (.cells #[.slice A n c, .pointer lp, .pointer rp, Vi (htT t), Vi (cnt t), Vi (shw t), Vq (loT t), Vq (hiT t)] 30) = Z := ⟨_, rfl⟩
  obtain ⟨pb, hpb⟩ : ∃ z, W.heap.size = z := ⟨_, rfl⟩
  have hs1 : W1.heap.size = pb + 1 := by rw [← hW1, ← hpb]; simp
  rw [hW1] at hA x1
  rw [hpb] at hA
  have x2 : Ext W1 (W1.alloc (.cells #[.int .u32 c0, .int .u32 k0] 41)) := (Ext.refl W1).alloc _
  have y0 : (W1.alloc (.cells #[.int .u32 c0, .int .u32 k0] 41)).heap[pb + 1]? = some (.cells #[.int .u32 c0, .int .u32 k0] 41 (0, 0)) := by rw [← hs1]; exact heap_alloc_new W1 _
  obtain ⟨W2, hW2⟩ : ∃ Z, W1.alloc (.cells #[.int .u32 c0, .int .u32 k0] 41) = Z := ⟨_, rfl⟩
  have hs2 : W2.heap.size = pb + 1 + 1 := by rw [← hW2, ← hs1]; simp
  rw [hW2] at x2 y0
  have x3 : Ext W2 (W2.alloc (.cells #[.slice none 0 0, .pointer none, .pointer none, Vi 0, Vi 0, Vi 0, Vq 0, Vq 0] 30)) := (Ext.refl W2).alloc _
  have hr0 : (W2.alloc (.cells #[.slice none 0 0, .pointer none, .pointer none, Vi 0, Vi 0, Vi 0, Vq 0, Vq 0] 30)).heap[pb + 2]? = some (.cells #[.slice none 0 0, .pointer none, .pointer none, Vi 0, Vi 0, Vi 0, Vq 0, Vq 0] 30 (0, 0)) := by rw [show pb + 2 = W2.heap.size by omega]; exact heap_alloc_new W2 _
  obtain ⟨W3, hW3⟩ : ∃ Z, W2.alloc (.cells #[.slice none 0 0, .pointer none, .pointer none, Vi 0, Vi 0, Vi 0, Vq 0, Vq 0] 30) = Z := ⟨_, rfl⟩
  have hs3 : W3.heap.size = pb + 3 := by rw [← hW3, show pb + 3 = W2.heap.size + 1 by omega]; simp
  rw [hW3] at x3 hr0
  have hX3 := (x1.trans x2).trans x3
  have hA := (hA.ext x2).ext x3
  have y3 := (RowKit.Below.block x3 (pb + 1) (Array.getElem?_eq_some_iff.1 y0).1).trans y0
  obtain ⟨rb, hrb⟩ : ∃ z, pb + 2 = z := ⟨_, rfl⟩
  rw [hrb] at hr0
  have hge : W.heap.size ≤ rb := by omega
  have hGn : ∀ b, G b → b ≠ rb := fun b hb e => by
    rw [hG] at hb
    rcases hb with hb | hb | hb
    · have := hFl b hb; omega
    · omega
    · omega
  have hUp : Up G W3 := fun b hb => by rw [hG]; exact .inr (.inr (by omega))
  have hFs : ∀ b, G b → F b ∨ W.heap.size ≤ b := fun b hb => by
    rw [hG] at hb
    rcases hb with hb | hb | hb
    · exact .inl hb
    · exact .inr (by omega)
    · exact .inr (by omega)
  have hbx : PtC W3 pb (.slice A n c) (.pointer lp) (.pointer rp) (htT t) (cnt t) (shw t) (loT t) (hiT t) := by
    have := (PtC.new W (.slice A n c) (.pointer lp) (.pointer rp) (htT t) (cnt t) (shw t) (loT t) (hiT t) 30)
    rw [hW1, hpb] at this
    exact (this.ext x2).ext x3
  have e0 := cell_of_row W3 (pb + 1) 0 _ _ _ y3
  have e1 := cell_of_row W3 (pb + 1) 1 _ _ _ y3
  have hql := find_lt hq
  have hfv : fndE l c0 k0 = (q : Int) ∧ fndB l c0 k0 = true := by
    unfold fndE fndB
    rw [hq]
    exact ⟨rfl, rfl⟩
  have hfi := find_ix W3 _ l c0 k0 (h'.ext hX3) (by omega)
  rw [hfv.1, hfv.2] at hfi
  replace hfi := Lib.hid hfi
  have hhd := Lib.hid (fun Z (hx : Ext W3 Z) => hide_any t pb q Z (hA.ext hx) (hUp.ext hx) hok (by omega) (by omega))
  have hent3 : ents (hideTr t q) = hideE l c0 k0 := by
    obtain ⟨y, hy, _⟩ := find_some hq
    rw [hideTr_ents, hE, gone_set hy, hide_set hap hq hy]
  have hok3 : hideTr t q = .leaf [] ∨ okR (hideTr t q) := by
    rcases hok with h0 | h0
    · subst h0
      have : cnt (.leaf []) = 0 := rfl
      omega
    · exact .inr (hideTr_ok t q h0)
  obtain ⟨p0, p1, p2, p3, p4, p5, p6, p7⟩ := hbx
  clear hfv hap hq
  clear hA hbox h h' hG hF0 hG0 x1 x2 x3 y0 hs1 hs2 hs3 y3
  replace hW1 := Lib.hid hW1
  replace hW2 := Lib.hid hW2
  replace hW3 := Lib.hid hW3
  replace hpb := Lib.hid hpb
  replace hrb := Lib.hid hrb
  replace hcn := Lib.hid hcn
  go_enter Try.func27, Try.ntmps27
  go_wp2_with fail
  rw [hW1.out, hpb.out, hW2.out, hW3.out, hrb.out]
  refine hfi.out.mono ?_
  rintro e w4 ⟨rfl, x4⟩
  clear p0 p1 p2 p3 p4 p5 p6 p7 e0 e1
  go_wp2_with fail
  refine (hhd.out _ x4).mono ?_
  rintro e w3 ⟨v3, rfl, ⟨q3, rfl, hA3⟩, x5⟩
  have hXa := (hX3.trans x4).trans x5
  have hrz := (RowKit.Below.block (x4.trans x5) rb (Array.getElem?_eq_some_iff.1 hr0).1).trans hr0
  have hFn : ∀ b, (G b ∧ b < w3.heap.size) → F b ∨ W.heap.size ≤ b := fun b hb => hFs b hb.1
  obtain ⟨T9, hT9⟩ : ∃ z, hideTr t q = z := ⟨_, rfl⟩
  rw [hT9] at hA3 hent3 hok3
  clear hT9
  obtain ⟨A3, n3, c3, l3, r3, ⟨d0, d1, d2, d3, d4, d5, d6, d7⟩, hv3⟩ := hA3.form
  have k0 := cell_of_row w3 rb 0 _ _ _ hrz
  have f0 := frozen_of_row w3 rb 0 _ _ hrz
  have k1 := cell_of_row w3 rb 1 _ _ _ hrz
  have f1 := frozen_of_row w3 rb 1 _ _ hrz
  have k2 := cell_of_row w3 rb 2 _ _ _ hrz
  have f2 := frozen_of_row w3 rb 2 _ _ hrz
  have k3 := cell_of_row w3 rb 3 _ _ _ hrz
  have f3 := frozen_of_row w3 rb 3 _ _ hrz
  have k4 := cell_of_row w3 rb 4 _ _ _ hrz
  have f4 := frozen_of_row w3 rb 4 _ _ hrz
  have k5 := cell_of_row w3 rb 5 _ _ _ hrz
  have f5 := frozen_of_row w3 rb 5 _ _ hrz
  have k6 := cell_of_row w3 rb 6 _ _ _ hrz
  have f6 := frozen_of_row w3 rb 6 _ _ hrz
  have k7 := cell_of_row w3 rb 7 _ _ _ hrz
  have f7 := frozen_of_row w3 rb 7 _ _ hrz
  have hz := st8_row hrz (.slice A3 n3 c3) (.pointer l3) (.pointer r3) (Vi (htT T9)) (Vi (cnt T9)) (Vi (shw T9)) (Vq (loT T9)) (Vq (hiT T9))
  have hx4 := Ext.st8 hXa hge (.slice A3 n3 c3) (.pointer l3) (.pointer r3) (Vi (htT T9)) (Vi (cnt T9)) (Vi (shw T9)) (Vq (loT T9)) (Vq (hiT T9))
  have hfr := fun (q : Nat) (hq : q ≠ rb) => st8_other (w := w3) hq (.slice A3 n3 c3) (.pointer l3) (.pointer r3) (Vi (htT T9)) (Vi (cnt T9)) (Vi (shw T9)) (Vq (loT T9)) (Vq (hiT T9))
  have hsz4 := st8_size (w := w3) (b := rb) (.slice A3 n3 c3) (.pointer l3) (.pointer r3) (Vi (htT T9)) (Vi (cnt T9)) (Vi (shw T9)) (Vq (loT T9)) (Vq (hiT T9))
  have hix := Lib.hid (ix_of hv3 hent3 hok3 (fun b hb => hfr b (hGn b hb)) (Nat.le_of_eq hsz4.symm))
  clear hfr hv3
  go_wp2
  have z0 := cell_of_row _ rb 0 _ _ _ hz
  have z1 := cell_of_row _ rb 1 _ _ _ hz
  have z2 := cell_of_row _ rb 2 _ _ _ hz
  have z3 := cell_of_row _ rb 3 _ _ _ hz
  have z4 := cell_of_row _ rb 4 _ _ _ hz
  have z5 := cell_of_row _ rb 5 _ _ _ hz
  have z6 := cell_of_row _ rb 6 _ _ _ hz
  have z7 := cell_of_row _ rb 7 _ _ _ hz
  exact bodyPost_ret (v := .tuple #[.agg #[.slice A3 n3 c3, .pointer l3, .pointer r3, Vi (htT T9), Vi (cnt T9), Vi (shw T9), Vq (loT T9), Vq (hiT T9)], .nilIface]) (by simp [results, Try.results27, go_sem, z0, z1, z2, z3, z4, z5, z6, z7]) rfl ⟨_, _, rfl, hix.out, hFn, hx4⟩
theorem fndY_some {l : List En} {c k : Int} {q : Nat} (h : findE l c k = some q) : fndE l c k = (q : Int) ∧ fndB l c k = true := by
  unfold fndE fndB; rw [h]; exact ⟨rfl, rfl⟩
end Go.Proofs.Ytmpomammieenjaa

namespace Go.Proofs.Ytmpomammieenjaa
open Go.ChangeShapes Go.WideShapes Go.ChangeAt Go.RowKit Go.Sort
set_option linter.unusedVariables false
set_option linter.unusedSimpArgs false
attribute [local go_sem] World.cell?_alloc_some

def idAt (l : List En) (i : Nat) : I2 := match l[i]? with
  | some x => (x.c, x.k)
  | none => (0, 0)
theorem idAt_some {l : List En} {i : Nat} {x : En} (h : l[i]? = some x) : idAt l i = (x.c, x.k) := by unfold idAt; rw [h]
theorem idAt_none {l : List En} {i : Nat} (h : l.length ≤ i) : idAt l i = (0, 0) := by unfold idAt; rw [List.getElem?_eq_none h]
def btwE (l : List En) : Nat → I2 × I2
  | 0 => ((0, 0), idAt l 0)
  | k + 1 => (idAt l (((shownE l)[k]?).getD 0), idAt l (((shownE l)[k]?).getD 0 + 1))
def idsE (l : List En) (a n : Nat) : List I2 := (((shownE l).drop a).take n).map (idAt l)
theorem idsE_len (l : List En) (a n : Nat) : (idsE l a n).length ≤ n := by unfold idsE; rw [List.length_map, List.length_take]; omega
theorem shownE_lt {l : List En} {k p : Nat} (h : (shownE l)[k]? = some p) : p < l.length := by
  have := shown_lt l 0 p (List.mem_of_getElem? h); omega
theorem idsE_step {l : List En} {a m p : Nat} {x : En} (h : (shownE l)[a + m]? = some p) (hx : l[p]? = some x) : idsE l a (m + 1) = idsE l a m ++ [(x.c, x.k)] := by
  unfold idsE
  rw [List.take_add_one, List.getElem?_drop, h, Option.toList_some, List.map_append, List.map_singleton, idAt_some hx]
theorem w64_id {z : Int} (h1 : -9223372036854775808 ≤ z) (h2 : z ≤ 9223372036854775807) : wrap64 z = z := by unfold wrap64; omega
theorem OwnQ.at {w W : World} {v : Value} {l : List Nat} (h : OwnQ w W v l) : ∃ A c, v = .slice A l.length c ∧ ∀ (k p : Nat), l[k]? = some p → ∃ b o, A = some ⟨b, o, none⟩ ∧ W.cell? ⟨b, o + k, none⟩ = some (Vi (p : Int)) := by
  obtain ⟨A, c, rfl, hc⟩ := OwnG.form h
  refine ⟨A, c, rfl, fun k p hk => ?_⟩
  have hrow := OwnG.row h
  obtain ⟨b, o, e, hcell⟩ := hrow (by rw [List.length_map]; have := (List.getElem?_eq_some_iff.1 hk).1; omega)
  exact ⟨b, o, e, hcell k _ (by rw [List.getElem?_map, hk]; rfl)⟩

end Go.Proofs.Ytmpomammieenjaa

namespace Go.Proofs.Ytmpomammieenjaa
open Go.ChangeShapes Go.WideShapes Go.ChangeAt Go.RowKit Go.Sort
set_option linter.unusedVariables false
set_option linter.unusedSimpArgs false
attribute [local go_sem] World.cell?_alloc_some

def BoxO (W : World) (g : Nat) (x y : Int) : Prop := W.heap[g]? = some (.cells #[Vu x, Vu y] 41 (0, 0))
theorem BoxO.new (W : World) (x y : Int) : BoxO (W.alloc (.cells #[Vu x, Vu y] 41)) W.heap.size x y := heap_alloc_new W _
theorem BoxO.ext {W W' : World} {g : Nat} {x y : Int} (h : BoxO W g x y) (hx : Ext W W') : BoxO W' g x y := by
  unfold BoxO at h ⊢
  rw [RowKit.Below.block hx g (Array.getElem?_eq_some_iff.1 h).1]; exact h
theorem BoxO.lt {W : World} {g : Nat} {x y : Int} (h : BoxO W g x y) : g < W.heap.size := (Array.getElem?_eq_some_iff.1 h).1
theorem BoxO.cells {W : World} {g : Nat} {x y : Int} (h : BoxO W g x y) : W.cell? ⟨g, 0, none⟩ = some (Vu x) ∧ W.cell? ⟨g, 1, none⟩ = some (Vu y) ∧ W.frozen? ⟨g, 0, none⟩ = false ∧ W.frozen? ⟨g, 1, none⟩ = false :=
  ⟨by rw [cell_of_row W g 0 _ _ _ h]; rfl, by rw [cell_of_row W g 1 _ _ _ h]; rfl, frozen_of_row W g 0 _ _ h, frozen_of_row W g 1 _ _ h⟩
theorem BoxO.set {W : World} {g : Nat} {x y : Int} (h : BoxO W g x y) (u v : Int) : BoxO ((W.setCell ⟨g, 0, none⟩ (Vu u)).setCell ⟨g, 1, none⟩ (Vu v)) g u v := by
  have h0 : BoxO (W.setCell ⟨g, 0, none⟩ (Vu u)) g u y := heap_setCell_same W g 0 _ _ _ h
  generalize W.setCell ⟨g, 0, none⟩ (Vu u) = W0 at *
  exact heap_setCell_same W0 g 1 _ _ _ h0
theorem BoxO.other {W : World} {g q : Nat} {x y : Int} (h : BoxO W g x y) (hne : g ≠ q) (u v : Value) : BoxO ((W.setCell ⟨q, 0, none⟩ u).setCell ⟨q, 1, none⟩ v) g x y := by
  unfold BoxO at h ⊢
  rw [heap_setCell_other _ _ _ _ (fun e => hne e), heap_setCell_other _ _ _ _ (fun e => hne e)]; exact h

def btA (l : List En) : Nat → Nat
  | 0 => 0
  | k + 1 => ((shownE l)[k]?).getD 0 + 1
theorem btw_pos {l : List En} {k p : Nat} (h0 : 0 < k) (hp : (shownE l)[k - 1]? = some p) : btwE l k = (idAt l p, idAt l (p + 1)) ∧ btA l k = p + 1 := by
  cases k with
  | zero => omega
  | succ j =>
    rw [Nat.add_sub_cancel] at hp
    show (idAt l (((shownE l)[j]?).getD 0), idAt l (((shownE l)[j]?).getD 0 + 1)) = _ ∧ ((shownE l)[j]?).getD 0 + 1 = _
    rw [hp]
    exact ⟨rfl, rfl⟩
end Go.Proofs.Ytmpomammieenjaa

namespace Go.Proofs.Ytmpomammieenjaa
open Go.ChangeShapes Go.WideShapes Go.ChangeAt Go.RowKit Go.Sort
set_option linter.unusedVariables false
set_option linter.unusedSimpArgs false
set_option linter.unusedSimpArgs false
attribute [local go_sem] World.cell?_alloc_some

abbrev xl (y : Lv) : Xv := ⟨y.A, y.n, y.c, y.l, y.r, y.h, y.m, y.s, y.lo, y.hi⟩
structure LC (F : Nat → Prop) (W : World) (y : Lv) (L : List It) (G : List I2) (t : HT) (ad : I2 → Nat) : Prop where
  ix : Ix F W (ixv (xl y)) (entL L G)
  hv : HV F W ad t (.pointer y.p)
  nd : NdL F W ad L
  srt : SrtH t
  mem : ∀ a, a ∈ hin t ↔ hasI L a = true
  gin : ∀ g ∈ G, hasI L g = true
  wf : ∀ x ∈ L, wfI x
  lt : ∀ b, F b → b < W.heap.size
  tl : (hin t).length = L.length
theorem LC.ext {F : Nat → Prop} {W W' : World} {y : Lv} {L : List It} {G : List I2} {t : HT} {ad : I2 → Nat} (h : LC F W y L G t ad) (hx : Ext W W') : LC F W' y L G t ad :=
  ⟨h.ix.ext hx, h.hv.ext hx, h.nd.ext hx, h.srt, h.mem, h.gin, h.wf, fun b hb => hx.lt (h.lt b hb), h.tl⟩
theorem LC.len {F : Nat → Prop} {W : World} {y : Lv} {L : List It} {G : List I2} {t : HT} {ad : I2 → Nat} (h : LC F W y L G t ad) : (entL L G).length = L.length := entL_len h.nd.kn G
theorem LC.find {F : Nat → Prop} {W : World} {y : Lv} {L : List It} {G : List I2} {t : HT} {ad : I2 → Nat} (h : LC F W y L G t ad) (c k : Int) :
    Calls Try.prog 30 #[.pointer y.p, idv c k] W fun e w' => e = .returned (if hasI L (c, k) = true then Vp (ad (c, k)) else Vnil) ∧ Ext W w' := by
  have := findH_any t (.pointer y.p) c k W h.hv (h.nd.ids fun a ha => (h.mem a).1 ha) h.srt
  unfold fdV at this
  simp only [h.mem] at this
  exact this
theorem LC.findIn {F : Nat → Prop} {W : World} {y : Lv} {L : List It} {G : List I2} {t : HT} {ad : I2 → Nat} (h : LC F W y L G t ad) {c k : Int} (ha : hasI L (c, k) = true) :
    Calls Try.prog 30 #[.pointer y.p, idv c k] W fun e w' => e = .returned (Vp (ad (c, k))) ∧ Ext W w' := by
  have := h.find c k
  rwa [if_pos ha] at this
theorem LC.findNo {F : Nat → Prop} {W : World} {y : Lv} {L : List It} {G : List I2} {t : HT} {ad : I2 → Nat} (h : LC F W y L G t ad) {c k : Int} (ha : hasI L (c, k) = false) :
    Calls Try.prog 30 #[.pointer y.p, idv c k] W fun e w' => e = .returned Vnil ∧ Ext W w' := by
  have := h.find c k
  rwa [if_neg (by rw [ha]; decide)] at this

abbrev lbox (y : Lv) : Obj := .cells #[.slice y.A y.n y.c, .pointer y.l, .pointer y.r, Vi y.h, Vi y.m, Vi y.s, Vq y.lo, Vq y.hi, .pointer y.p] 33
theorem LC.entry {F : Nat → Prop} {W : World} {y : Lv} {L : List It} {G : List I2} {t : HT} {ad : I2 → Nat} (h : LC F W y L G t ad) (hl : L.length ≤ 1000) {q : Nat} {a : I2} (ha : (ordL L)[q]? = some a) :
    Calls Try.prog 65 #[ixv (xl y), Vi (q : Int)] W fun e w' => e = .returned (.tuple #[env (entA L G a), .nilIface]) ∧ Ext W w' :=
  entry_ix W _ _ q _ h.ix (by rw [h.len]; exact hl) (ent_at G ha)
theorem LC.entryNo {F : Nat → Prop} {W : World} {y : Lv} {L : List It} {G : List I2} {t : HT} {ad : I2 → Nat} (h : LC F W y L G t ad) (hl : L.length ≤ 1000) {z : Int} (h1 : -2 ≤ z ∧ z ≤ 2000) (h2 : z < 0 ∨ (L.length : Int) ≤ z) :
    Calls Try.prog 65 #[ixv (xl y), Vi z] W fun e w' => e = .returned (.tuple #[env zE, errv 3]) ∧ Ext W w' :=
  entryNo_ix W _ _ z h.ix (by rw [h.len]; exact hl) h1 (by rw [h.len]; exact h2)

set_option maxRecDepth 100000 in
set_option maxHeartbeats 4000000 in
theorem idAt_by (y : Lv) (z : Int) (x : En) (c : Int) (W : World) (hc : ∀ w', Ext W w' → Calls Try.prog 65 #[ixv (xl y), Vi z] w' fun e w2 => e = .returned (.tuple #[env x, errv c]) ∧ Ext w' w2) :
    Calls Try.prog 45 #[lsv y, Vi z] W fun e w' => e = .returned (idv x.c x.k) ∧ Ext W w' := by
  replace hc := Lib.hid hc
  obtain ⟨er, her⟩ : ∃ er, errv c = er := ⟨_, rfl⟩
  rw [her] at hc
  clear her
  go_enter Try.func45, Try.ntmps45
  go_wp2_with fail
  have x0 : Ext W ((W.alloc (lbox y)).alloc (.cells #[.int .u32 0, .int .u32 0] 41)) := ((Ext.refl W).alloc _).alloc _
  refine (hc.out _ x0).mono ?_
  rintro e w1 ⟨rfl, x1⟩
  have bo : BoxO ((W.alloc (lbox y)).alloc (.cells #[.int .u32 0, .int .u32 0] 41)) (W.heap.size + 1) 0 0 := by
    have := BoxO.new (W.alloc (lbox y)) 0 0
    rwa [show (W.alloc (lbox y)).heap.size = W.heap.size + 1 by simp] at this
  replace bo := bo.ext x1
  have hE := Lib.hid (x0.trans x1)
  obtain ⟨pa, hpa⟩ : ∃ pa, W.heap.size + 1 = pa := ⟨_, rfl⟩
  rw [hpa] at bo ⊢
  have hpl := Lib.hid (show W.heap.size ≤ pa by omega)
  clear x0 x1 hc hpa
  have b0 : (w1.alloc (.cells #[Vu x.c, Vu x.k, .int .i32 x.ch, .bool x.g] 79)).cell? ⟨w1.heap.size, 0, none⟩ = some (Vu x.c) := by simp [go_sem]
  have b1 : (w1.alloc (.cells #[Vu x.c, Vu x.k, .int .i32 x.ch, .bool x.g] 79)).cell? ⟨w1.heap.size, 1, none⟩ = some (Vu x.k) := by simp [go_sem]
  have hx2 := Lib.hid (hE.out.alloc (.cells #[Vu x.c, Vu x.k, .int .i32 x.ch, .bool x.g] 79))
  have xy : Ext w1 (w1.alloc (.cells #[Vu x.c, Vu x.k, .int .i32 x.ch, .bool x.g] 79)) := (Ext.refl w1).alloc _
  replace bo := bo.ext xy
  obtain ⟨k0, k1, f0, f1⟩ := bo.cells
  obtain ⟨z0, z1, _, _⟩ := (bo.set x.c x.k).cells
  clear xy bo
  replace z0 := Lib.hid z0
  replace z1 := Lib.hid z1
  go_wp2
  have z0 := z0.out
  have z1 := z1.out
  exact bodyPost_ret (v := idv x.c x.k) (by simp [results, Try.results45, go_sem, z0, z1]) rfl ⟨rfl, (hx2.out.setCell hpl.out _).setCell hpl.out _⟩
theorem LC.idOf {F : Nat → Prop} {W : World} {y : Lv} {L : List It} {G : List I2} {t : HT} {ad : I2 → Nat} (h : LC F W y L G t ad) (hl : L.length ≤ 1000) {q : Nat} {a : I2} (ha : (ordL L)[q]? = some a) :
    Calls Try.prog 45 #[lsv y, Vi (q : Int)] W fun e w' => e = .returned (idv a.1 a.2) ∧ Ext W w' :=
  idAt_by y q (entA L G a) 0 W fun w' hx => (h.ext hx).entry hl ha
theorem LC.idOfNo {F : Nat → Prop} {W : World} {y : Lv} {L : List It} {G : List I2} {t : HT} {ad : I2 → Nat} (h : LC F W y L G t ad) (hl : L.length ≤ 1000) {z : Int} (h1 : -2 ≤ z ∧ z ≤ 2000) (h2 : z < 0 ∨ (L.length : Int) ≤ z) :
    Calls Try.prog 45 #[lsv y, Vi z] W fun e w' => e = .returned (idv 0 0) ∧ Ext W w' :=
  idAt_by y z zE 3 W fun w' hx => (h.ext hx).entryNo hl h1 h2

set_option maxRecDepth 100000 in
set_option maxHeartbeats 4000000 in
theorem LC.shownAt {F : Nat → Prop} {W : World} {y : Lv} {L : List It} {G : List I2} {t : HT} {ad : I2 → Nat} (h : LC F W y L G t ad) (hl : L.length ≤ 1000) {q p : Nat} (hq : (shownE (entL L G))[q]? = some p) :
    Calls Try.prog 46 #[lsv y, Vi (q : Int)] W fun e w' => e = .returned (Vi (p : Int)) ∧ Ext W w' := by
  have hc := Lib.hid (fun w' (hx : Ext W w') => at_ix w' _ _ q p (h.ix.ext hx) (by rw [h.len]; exact hl) hq)
  clear h hq hl
  go_enter Try.func46, Try.ntmps46
  go_wp2_with fail
  have x0 : Ext W (W.alloc (lbox y)) := (Ext.refl W).alloc _
  refine (hc.out _ x0).mono ?_
  rintro e w1 ⟨rfl, x1⟩
  have hE := Lib.hid (x0.trans x1)
  clear x0 x1 hc
  go_wp2
  go_ret
  exact ⟨rfl, hE.out⟩

set_option maxRecDepth 100000 in
set_option maxHeartbeats 4000000 in
theorem LC.nodeAt {F : Nat → Prop} {W : World} {y : Lv} {L : List It} {G : List I2} {t : HT} {ad : I2 → Nat} (h : LC F W y L G t ad) (hl : L.length ≤ 1000) {q : Nat} {a : I2} (ha : (ordL L)[q]? = some a) :
    Calls Try.prog 86 #[lsv y, Vi (q : Int)] W fun e w' => e = .returned (Vp (ad a)) ∧ Ext W w' := by
  have hc := Lib.hid (fun w' (hx : Ext W w') => (h.ext hx).idOf hl ha)
  have hf := Lib.hid (fun w' (hx : Ext W w') => (h.ext hx).findIn (c := a.1) (k := a.2) (ord_has h.nd.kn ha))
  obtain ⟨p, hp⟩ : ∃ p, ad a = p := ⟨_, rfl⟩
  rw [hp] at hf ⊢
  clear h ha hl hp
  go_enter Try.func86, Try.ntmps86
  go_wp2_with fail
  have x0 : Ext W (W.alloc (lbox y)) := (Ext.refl W).alloc _
  have bl := (BxL.new W y).cells
  obtain ⟨b0, b1, b2, b3, b4, b5, b6, b7, b8⟩ := bl
  generalize W.alloc (lbox y) = w1 at *
  generalize W.heap.size = pb at *
  replace b0 := cell_regrown b0
  replace b1 := cell_regrown b1
  replace b2 := cell_regrown b2
  replace b3 := cell_regrown b3
  replace b4 := cell_regrown b4
  replace b5 := cell_regrown b5
  replace b6 := cell_regrown b6
  replace b7 := cell_regrown b7
  replace b8 := cell_regrown b8
  refine wp_region_quiet_below (by kernel_rfl) (by kernel_rfl) ?_
  repeat go_big_quiet_step ((first | with_reducible exact Calls.in_regrown (hc.out _ (x0.trans (Ext.regrown _ _ _))) | with_reducible exact Calls.in_regrown (hf.out _ (x0.trans (Ext.regrown _ _ _)))))
  refine wpQuiet_nil ?_
  intro _ hw'
  obtain ⟨⟨dq, osq⟩, hw''⟩ := hw'
  subst hw''
  have x2 := Lib.hid (x0.trans (Ext.regrown w1 dq osq))
  clear b0 b1 b2 b3 b4 b5 b6 b7 b8 x0 hc hf
  go_wp2
  go_ret
  exact ⟨rfl, x2.out⟩
end Go.Proofs.Ytmpomammieenjaa

namespace Go.Proofs.Ytmpomammieenjaa
open Go.ChangeShapes Go.WideShapes Go.ChangeAt Go.RowKit Go.Sort
set_option linter.unusedVariables false
set_option linter.unusedSimpArgs false
set_option linter.unusedSimpArgs false
attribute [local go_sem] World.cell?_alloc_some

theorem none_lit {c k : Int} {B : Bool} (h : decide (c = 0) = B) (w : World) : Calls Try.prog 29 #[idv c k] w fun e w' => e = .returned (.bool B) ∧ Ext w w' := by
  have := none_any c k w
  rwa [show (c == 0) = B from h] at this

set_option maxRecDepth 100000 in
set_option maxHeartbeats 4000000 in
theorem LC.noneOrHas {F : Nat → Prop} {W : World} {y : Lv} {L : List It} {G : List I2} {t : HT} {ad : I2 → Nat} (h : LC F W y L G t ad) (c k : Int) {B : Bool} (hB : (decide (c = 0) || hasI L (c, k)) = B) :
    Calls Try.prog 31 #[lsv y, idv c k] W fun e w' => e = .returned (.bool B) ∧ Ext W w' := by
  have x0 : Ext W ((W.alloc (lbox y)).alloc (.cells #[.int .u32 c, .int .u32 k] 41)) := ((Ext.refl W).alloc _).alloc _
  have bl := ((BxL.new W y).ext ((Ext.refl _).alloc (.cells #[.int .u32 c, .int .u32 k] 41)))
  have bo := BoxO.new (W.alloc (lbox y)) c k
  rw [show (W.alloc (lbox y)).heap.size = W.heap.size + 1 by simp] at bo
  obtain ⟨b, hb⟩ : ∃ b, decide (c = 0) = b := ⟨_, rfl⟩
  have hn := Lib.hid (fun W => none_lit (k := k) hb W)
  cases b with
  | true =>
    obtain rfl : true = B := by rw [← hB, hb]; rfl
    clear hB hb h bl bo
    go_enter Try.func31, Try.ntmps31
    go_wp2_with fail
    refine (hn.out _).mono ?_
    rintro e w1 ⟨rfl, x1⟩
    have hE := Lib.hid (x0.trans x1)
    clear x0 x1 hn
    go_wp2
    go_ret
    exact ⟨rfl, hE.out⟩
  | false =>
    have hB2 : hasI L (c, k) = B := by rw [← hB, hb]; rfl
    clear hB hb
    go_enter Try.func31, Try.ntmps31
    go_wp2_with fail
    refine (hn.out _).mono ?_
    rintro e w1 ⟨rfl, x1⟩
    have hE := Lib.hid (x0.trans x1)
    obtain ⟨k0, k1, _, _⟩ := (bo.ext x1).cells
    have k8 := (bl.ext x1).cells.2.2.2.2.2.2.2.2
    have hf := Lib.hid ((h.ext (x0.trans x1)).find c k)
    clear x0 x1 hn bl bo h
    go_wp2_with fail
    refine hf.out.mono ?_
    rintro e w2 ⟨rfl, x2⟩
    replace hE := Lib.hid (hE.out.trans x2)
    cases B with
    | true =>
      rw [if_pos hB2]
      clear hB2 hf x2 k0 k1 k8
      go_wp2
      go_ret
      exact ⟨rfl, hE.out⟩
    | false =>
      rw [if_neg (by rw [hB2]; decide)]
      clear hB2 hf x2 k0 k1 k8
      go_wp2
      go_ret
      exact ⟨rfl, hE.out⟩

theorem NdL.item {F : Nat → Prop} {W : World} {ad : I2 → Nat} {L : List It} (h : NdL F W ad L) {a : I2} (ha : hasI L a = true) : ∃ v1 r d v2, NC W (ad a) (itmV L a) v1 r d v2 := by
  obtain ⟨i, x, hf, hx, rfl⟩ := fnd_mem ha
  obtain ⟨_, on, far, r, q, _, _, _, _, _, hc⟩ := h.at' x (List.mem_of_getElem? hx)
  rw [itmV_some hf hx]
  exact ⟨_, _, _, _, hc⟩

set_option maxRecDepth 100000 in
set_option maxHeartbeats 8000000 in
theorem LC.item {F : Nat → Prop} {W : World} {y : Lv} {L : List It} {G : List I2} {t : HT} {ad : I2 → Nat} (h : LC F W y L G t ad) (c k : Int) :
    Calls Try.prog 39 #[lsv y, idv c k] W fun e w' => e = .returned (.tuple #[itv (itmV L (c, k)), .bool (hasI L (c, k))]) ∧ Ext W w' := by
  have x0 : Ext W (((W.alloc (lbox y)).alloc (.cells #[.int .u32 c, .int .u32 k] 41)).alloc (.cells #[.int .u32 0, .int .u32 0, .int .u32 0, .int .u32 0, .int .u32 0, .int .u32 0, .int .i32 0] 43)) := (((Ext.refl W).alloc _).alloc _).alloc _
  have bi := BoxI.newL ((W.alloc (lbox y)).alloc (.cells #[.int .u32 c, .int .u32 k] 41)) ⟨0, 0, 0, 0, 0, 0, 0⟩
  rw [show ((W.alloc (lbox y)).alloc (.cells #[.int .u32 c, .int .u32 k] 41)).heap.size = W.heap.size + 1 + 1 by simp] at bi
  have hf := Lib.hid (fun w' (hx : Ext W w') => (h.ext hx).find c k)
  obtain ⟨B, hB⟩ : ∃ B, hasI L (c, k) = B := ⟨_, rfl⟩
  obtain ⟨x, hX⟩ : ∃ x, itmV L (c, k) = x := ⟨_, rfl⟩
  rw [hB] at hf ⊢
  rw [hX]
  replace h := Lib.hid h
  replace hX := Lib.hid hX
  have hpl : W.heap.size ≤ W.heap.size + 1 + 1 := by omega
  go_enter Try.func39, Try.ntmps39
  go_wp2_with fail
  refine (hf.out _ x0).mono ?_
  rintro e w1 ⟨rfl, x1⟩
  replace bi := bi.ext x1
  have hE := Lib.hid (x0.trans x1)
  obtain ⟨pa, hpa⟩ : ∃ pa, W.heap.size + 1 + 1 = pa := ⟨_, rfl⟩
  rw [hpa] at bi hpl ⊢
  clear x0 x1 hf hpa
  obtain ⟨k0, k1, k2, k3, k4, k5, k6⟩ := bi.cells
  simp only [Nat.zero_add] at k0 k1 k2 k3 k4 k5 k6
  have f0 := bi.thawL 0
  have f1 := bi.thawL 1
  have f2 := bi.thawL 2
  have f3 := bi.thawL 3
  have f4 := bi.thawL 4
  have f5 := bi.thawL 5
  have f6 := bi.thawL 6
  cases B with
  | true =>
    rw [if_pos rfl]
    obtain ⟨v1, r, d, v2, hc⟩ := (h.out.ext hE.out).nd.item hB
    rw [hX.out] at hc
    obtain ⟨z0, z1, z2, z3, z4, z5, z6⟩ := (bi.all x.c x.k x.lc x.lk x.rc x.rk x.ch).cells
    simp only [Nat.zero_add] at z0 z1 z2 z3 z4 z5 z6
    obtain ⟨c0, c1, c2, c3, c4, c5, c6, _, _, _, _⟩ := hc.cells
    generalize ad (c, k) = p at *
    have hz := Lib.hid (And.intro z0 (And.intro z1 (And.intro z2 (And.intro z3 (And.intro z4 (And.intro z5 z6))))))
    clear bi z0 z1 z2 z3 z4 z5 z6 hB hc
    go_wp2
    obtain ⟨z0, z1, z2, z3, z4, z5, z6⟩ := hz.out
    exact bodyPost_ret (v := .tuple #[itv x, .bool true]) (by simp [results, Try.results39, go_sem, z0, z1, z2, z3, z4, z5, z6]) rfl ⟨rfl, ((((((hE.out.setCell hpl _).setCell hpl _).setCell hpl _).setCell hpl _).setCell hpl _).setCell hpl _).setCell hpl _⟩
  | false =>
    rw [if_neg (by decide)]
    obtain ⟨z0, z1, z2, z3, z4, z5, z6⟩ := (bi.all 0 0 0 0 0 0 0).cells
    simp only [Nat.zero_add] at z0 z1 z2 z3 z4 z5 z6
    have hX2 := hX.out
    rw [itmV_none hB] at hX2
    subst hX2
    have hz := Lib.hid (And.intro z0 (And.intro z1 (And.intro z2 (And.intro z3 (And.intro z4 (And.intro z5 z6))))))
    clear bi z0 z1 z2 z3 z4 z5 z6 hB
    go_wp2
    obtain ⟨z0, z1, z2, z3, z4, z5, z6⟩ := hz.out
    exact bodyPost_ret (v := .tuple #[itv ⟨0, 0, 0, 0, 0, 0, 0⟩, .bool false]) (by simp [results, Try.results39, go_sem, z0, z1, z2, z3, z4, z5, z6]) rfl ⟨rfl, ((((((hE.out.setCell hpl _).setCell hpl _).setCell hpl _).setCell hpl _).setCell hpl _).setCell hpl _).setCell hpl _⟩

abbrev ibox (x : Xv) : Obj := .cells #[.slice x.A x.n x.c, .pointer x.l, .pointer x.r, Vi x.h, Vi x.m, Vi x.s, Vq x.lo, Vq x.hi] 30
set_option maxRecDepth 100000 in
set_option maxHeartbeats 8000000 in
theorem index_ls (W : World) (y : Lv) : Calls Try.prog 23 #[lsv y] W fun e w' => e = .returned (ixv (xl y)) ∧ Ext W w' := by
  have x0 : Ext W ((W.alloc (lbox y)).alloc (ibox (xl y))) := ((Ext.refl W).alloc _).alloc _
  have hr : ((W.alloc (lbox y)).alloc (ibox (xl y))).heap[W.heap.size + 1]? = some (ibox (xl y)) := by
    have := heap_alloc_new (W.alloc (lbox y)) (ibox (xl y))
    rwa [show (W.alloc (lbox y)).heap.size = W.heap.size + 1 by simp] at this
  have hz := (Bx.row (x := xl y) hr)
  replace hz := Lib.hid hz
  replace x0 := Lib.hid x0
  clear hr
  go_enter Try.func23, Try.ntmps23
  go_wp2
  obtain ⟨z0, z1, z2, z3, z4, z5, z6, z7⟩ := hz.out
  exact bodyPost_ret (v := ixv (xl y)) (by simp [results, Try.results23, go_sem, z0, z1, z2, z3, z4, z5, z6, z7]) rfl ⟨rfl, x0.out⟩
end Go.Proofs.Ytmpomammieenjaa

namespace Go.Proofs.Ytmpomammieenjaa
open Go.ChangeShapes Go.WideShapes Go.ChangeAt Go.RowKit Go.Sort
set_option linter.unusedVariables false
set_option linter.unusedSimpArgs false
set_option linter.unusedSimpArgs false
attribute [local go_sem] World.cell?_alloc_some

theorem Ix.mono {F G : Nat → Prop} {W : World} {v : Value} {l : List En} (h : Ix F W v l) (hx : ∀ b, F b → G b) (hg : ∀ b, G b → b < W.heap.size) : Ix G W v l := by
  obtain ⟨t, x, h1, h2, h3, h4, h5, h6, h7, h8, h9, h10⟩ := h
  exact ⟨t, x, h1, h2, h3, h4, h5, h6, h7, h8, h9.mono hx, hg⟩
theorem Ix.below {F : Nat → Prop} {W : World} {v : Value} {l : List En} (h : Ix F W v l) : ∀ b, F b → b < W.heap.size := by
  obtain ⟨t, x, h1, h2, h3, h4, h5, h6, h7, h8, h9, h10⟩ := h
  exact h10
theorem Ix.shape {F : Nat → Prop} {W : World} {v : Value} {l : List En} (h : Ix F W v l) : ∃ x, v = ixv x := by
  obtain ⟨t, x, h1, _⟩ := h
  exact ⟨x, h1⟩
abbrev lvx (x : Xv) (p : Option Addr) : Lv := ⟨x.A, x.n, x.c, x.l, x.r, x.h, x.m, x.s, x.lo, x.hi, p⟩
theorem find_of_has {l : List En} {c k : Int} (h : hasE l c k = true) : ∃ q, findE l c k = some q := by
  cases hf : findE l c k with
  | none => rw [find_none.1 hf] at h; cases h
  | some q => exact ⟨q, rfl⟩

set_option maxRecDepth 100000 in
set_option maxHeartbeats 8000000 in
theorem LC.delNo {F : Nat → Prop} {W : World} {y : Lv} {L : List It} {G : List I2} {t : HT} {ad : I2 → Nat} (h : LC F W y L G t ad) (hl : L.length ≤ 900) (c k : Int) (hno : hasI L (c, k) = false) :
    Calls Try.prog 9 #[lsv y, idv c k] W fun e w' => ∃ z : Lv, e = .returned (.tuple #[lsv z, errv 1]) ∧ Ext W w' := by
  have x0 : Ext W (((W.alloc (lbox y)).alloc (.cells #[.int .u32 c, .int .u32 k] 41)).alloc (lbox zLv)) := (((Ext.refl W).alloc _).alloc _).alloc _
  have bz := BxL.new ((W.alloc (lbox y)).alloc (.cells #[.int .u32 c, .int .u32 k] 41)) zLv
  rw [show ((W.alloc (lbox y)).alloc (.cells #[.int .u32 c, .int .u32 k] 41)).heap.size = W.heap.size + 1 + 1 by simp] at bz
  have hf := Lib.hid (fun w' (hx : Ext W w') => hideNo_ix w' _ _ c k (h.ext hx).ix (by rw [h.len]; omega) (find_none.2 (by rw [ent_has h.nd.kn]; exact hno)))
  have hpl : W.heap.size ≤ W.heap.size + 1 + 1 := by omega
  rw [show errv 1 = .iface 88 (Vi 1) from rfl] at hf
  clear h
  go_enter Try.func9, Try.ntmps9
  go_wp2_with fail
  refine (hf.out _ x0).mono ?_
  rintro e w1 ⟨rfl, x1⟩
  obtain ⟨pa, hpa⟩ : ∃ pa, W.heap.size + 1 + 1 = pa := ⟨_, rfl⟩
  rw [hpa] at bz hpl ⊢
  replace bz := (bz.ext x1).ext ((Ext.refl _).alloc (ibox ⟨none, 0, 0, none, none, 0, 0, 0, 0, 0⟩))
  have hE := Lib.hid ((x0.trans x1).alloc (ibox ⟨none, 0, 0, none, none, 0, 0, 0, 0, 0⟩))
  clear x0 x1 hf hpa
  obtain ⟨k0, k1, k2, k3, k4, k5, k6, k7, k8⟩ := bz.cells
  have f0 := bz.thaw 0
  have f1 := bz.thaw 1
  have f2 := bz.thaw 2
  have f3 := bz.thaw 3
  have f4 := bz.thaw 4
  have f5 := bz.thaw 5
  have f6 := bz.thaw 6
  have f7 := bz.thaw 7
  have f8 := bz.thaw 8
  have hz := Lib.hid (bz.put zLv).cells
  clear bz
  go_wp2
  obtain ⟨z0, z1, z2, z3, z4, z5, z6, z7, z8⟩ := hz.out
  exact bodyPost_ret (v := .tuple #[lsv zLv, errv 1]) (by simp [results, Try.results9, go_sem, z0, z1, z2, z3, z4, z5, z6, z7, z8, errv]) rfl ⟨zLv, rfl, ((((((((hE.out.setCell hpl _).setCell hpl _).setCell hpl _).setCell hpl _).setCell hpl _).setCell hpl _).setCell hpl _).setCell hpl _).setCell hpl _⟩

theorem Ix.frame {F : Nat → Prop} {W W' : World} {v : Value} {l : List En} (h : Ix F W v l) (hx : ∀ b, F b → W'.heap[b]? = W.heap[b]?) : Ix F W' v l := by
  obtain ⟨t, x, h1, h2, h3, h4, h5, h6, h7, h8, h9, h10⟩ := h
  refine ⟨t, x, h1, h2, h3, h4, h5, h6, h7, h8, h9.frame hx, fun b hb => ?_⟩
  have h1 := h10 b hb
  have h2 := hx b hb
  rw [Array.getElem?_eq_getElem h1] at h2
  exact (Array.getElem?_eq_some_iff.1 h2).1
theorem LC.frame {F : Nat → Prop} {W W' : World} {y : Lv} {L : List It} {G : List I2} {t : HT} {ad : I2 → Nat} (h : LC F W y L G t ad) (hx : ∀ b, F b → W'.heap[b]? = W.heap[b]?) : LC F W' y L G t ad :=
  ⟨h.ix.frame hx, h.hv.frame hx, h.nd.frame hx, h.srt, h.mem, h.gin, h.wf, (h.ix.frame hx).below, h.tl⟩
set_option maxRecDepth 100000 in
set_option maxHeartbeats 8000000 in
theorem LC.del {F : Nat → Prop} {W : World} {y : Lv} {L : List It} {G : List I2} {t : HT} {ad : I2 → Nat} (h : LC F W y L G t ad) (hl : L.length ≤ 900) (c k : Int) (hyes : hasI L (c, k) = true) :
    Calls Try.prog 9 #[lsv y, idv c k] W fun e w' => ∃ F' z, e = .returned (.tuple #[lsv z, .nilIface]) ∧ LC F' w' z L (G ++ [(c, k)]) t ad ∧ (∀ b, F' b → F b ∨ W.heap.size ≤ b) ∧ Ext W w' := by
  have x0 : Ext W (((W.alloc (lbox y)).alloc (.cells #[.int .u32 c, .int .u32 k] 41)).alloc (lbox zLv)) := (((Ext.refl W).alloc _).alloc _).alloc _
  have bz := BxL.new ((W.alloc (lbox y)).alloc (.cells #[.int .u32 c, .int .u32 k] 41)) zLv
  rw [show ((W.alloc (lbox y)).alloc (.cells #[.int .u32 c, .int .u32 k] 41)).heap.size = W.heap.size + 1 + 1 by simp] at bz
  have bl := ((BxL.new W y).ext ((Ext.refl _).alloc (.cells #[.int .u32 c, .int .u32 k] 41))).ext ((Ext.refl _).alloc (lbox zLv))
  obtain ⟨q, hq⟩ := find_of_has (show hasE (entL L G) c k = true by rw [ent_has h.nd.kn]; exact hyes)
  have hf := Lib.hid (fun w' (hx : Ext W w') => hide_ix w' _ _ c k q (h.ext hx).ix (by rw [h.len]; omega) (ent_apart h.nd.kn G) hq)
  have hpl : W.heap.size ≤ W.heap.size + 1 + 1 := by omega
  have hsz : (((W.alloc (lbox y)).alloc (.cells #[.int .u32 c, .int .u32 k] 41)).alloc (lbox zLv)).heap.size = W.heap.size + 1 + 1 + 1 := by simp
  replace h := Lib.hid h
  replace hsz := Lib.hid hsz
  clear hq
  go_enter Try.func9, Try.ntmps9
  go_wp2_with fail
  refine (hf.out _ x0).mono ?_
  rintro e w1 ⟨F', v', rfl, hI, hF', x1⟩
  obtain ⟨x, rfl⟩ := hI.shape
  rw [hsz.out] at hF'
  obtain ⟨pa, hpa⟩ : ∃ pa, W.heap.size + 1 + 1 = pa := ⟨_, rfl⟩
  rw [hpa] at bz hpl hF' ⊢
  have xa : Ext w1 (w1.alloc (ibox x)) := (Ext.refl _).alloc _
  replace bz := (bz.ext x1).ext xa
  replace bl := (bl.ext x1).ext xa
  have bi := Bx.new w1 x 30
  have hE := x0.trans x1
  have hL1 := h.out.ext hE
  have hno : ∀ b, F b ∨ F' b → b ≠ pa := by
    rintro b (hb | hb) e
    · have := h.out.lt b hb; omega
    · rcases hF' b hb with hb | hb
      · have := h.out.lt b hb; omega
      · omega
  have hend := Lib.hid (show LC (fun b => F b ∨ F' b) (putL (w1.alloc (ibox x)) pa (lvx x y.p)) (lvx x y.p) L (G ++ [(c, k)]) t ad ∧ (∀ b, (fun b => F b ∨ F' b) b → F b ∨ W.heap.size ≤ b) ∧ Ext W (putL (w1.alloc (ibox x)) pa (lvx x y.p)) from by
    refine ⟨LC.frame (W := w1) ?_ ?_, ?_, ?_⟩
    · refine ⟨?_, hL1.hv.mono fun b hb => .inl hb, hL1.nd.mono fun b hb => .inl hb, hL1.srt, hL1.mem, ?_, hL1.wf, ?_, hL1.tl⟩
      · rw [← ent_hide]
        exact hI.mono (fun b hb => .inr hb) (fun b hb => hb.elim (fun hb => hL1.lt b hb) (fun hb => hI.below b hb))
      · intro g hg
        rcases List.mem_append.1 hg with hg | hg
        · exact hL1.gin g hg
        · rw [List.mem_singleton.1 hg]; exact hyes
      · exact fun b hb => hb.elim (fun hb => hL1.lt b hb) (fun hb => hI.below b hb)
    · intro b hb
      have hbw : b < w1.heap.size := hb.elim (fun hb => hL1.lt b hb) (fun hb => hI.below b hb)
      have h1 := RowKit.Below.block xa b hbw
      have h2 := (show (w1.alloc (ibox x)).grownBy (putL (w1.alloc (ibox x)) pa (lvx x y.p)) (some pa) from putL_rx _ _ _).block b (xa.lt hbw) (fun e => hno b hb (by injection e))
      exact h2.trans h1
    · rintro b (hb | hb)
      · exact .inl hb
      · rcases hF' b hb with hb | hb
        · exact .inl hb
        · exact .inr (by omega)
    · exact ((((((((((hE.trans xa).setCell hpl _).setCell hpl _).setCell hpl _).setCell hpl _).setCell hpl _).setCell hpl _).setCell hpl _).setCell hpl _).setCell hpl _))
  replace hE := Lib.hid hE
  have hpal : pa < w1.heap.size := by have := x1.size; rw [hsz.out] at this; omega
  clear x0 x1 hf hpa hI hF' hL1 hno xa
  obtain ⟨k0, k1, k2, k3, k4, k5, k6, k7, k8⟩ := bz.cells
  have f0 := bz.thaw 0
  have f1 := bz.thaw 1
  have f2 := bz.thaw 2
  have f3 := bz.thaw 3
  have f4 := bz.thaw 4
  have f5 := bz.thaw 5
  have f6 := bz.thaw 6
  have f7 := bz.thaw 7
  have f8 := bz.thaw 8
  obtain ⟨b0, b1, b2, b3, b4, b5, b6, b7, b8⟩ := bl.cells
  obtain ⟨i0, i1, i2, i3, i4, i5, i6, i7⟩ := bi
  have hz := Lib.hid (bz.put (lvx x y.p)).cells
  clear bz bl
  go_upto_if 16 with fail
  generalize w1.alloc (ibox x) = w2 at *
  go_wp2
  obtain ⟨z0, z1, z2, z3, z4, z5, z6, z7, z8⟩ := hz.out
  exact bodyPost_ret (v := .tuple #[lsv (lvx x y.p), .nilIface]) (by simp [results, Try.results9, go_sem, z0, z1, z2, z3, z4, z5, z6, z7, z8]) rfl ⟨_, _, rfl, hend.out⟩
end Go.Proofs.Ytmpomammieenjaa

namespace Go.Proofs.Ytmpomammieenjaa
open Go.ChangeShapes Go.WideShapes Go.ChangeAt Go.RowKit Go.Sort
set_option linter.unusedVariables false
set_option linter.unusedSimpArgs false
set_option linter.unusedSimpArgs false
attribute [local go_sem] World.cell?_alloc_some
attribute [local go_sem ↓] id_eql

def lfR (x : It) : I2 := if x.lc = 0 then (0, 0) else ilf x
theorem lfR_ok {L : List It} {x : It} (hx : knownX L x = true) : RtL L (lfR x) := by
  obtain ⟨_, _, hl, _⟩ := knownX_spec hx
  unfold lfR
  by_cases h : x.lc = 0
  · rw [if_pos h]; exact .inl rfl
  · rw [if_neg h]; exact .inr (hl.resolve_left h)
theorem LC.findLf {F : Nat → Prop} {W : World} {y : Lv} {L : List It} {G : List I2} {t : HT} {ad : I2 → Nat} (h : LC F W y L G t ad) {x : It} (hx : knownX L x = true) :
    Calls Try.prog 30 #[.pointer y.p, idv x.lc x.lk] W fun e w' => e = .returned (vAd ad (lfR x)) ∧ Ext W w' := by
  obtain ⟨_, _, hl, _⟩ := knownX_spec hx
  unfold lfR
  by_cases hc : x.lc = 0
  · rw [if_pos hc, vAd_root]
    exact h.findNo (by rw [hc]; exact has_root h.nd.kn _)
  · rw [if_neg hc, vAd_of h.nd.kn (hl.resolve_left hc)]
    exact h.findIn (hl.resolve_left hc)
abbrev icells (x : It) : Obj := .cells #[.int .u32 x.c, .int .u32 x.k, .int .u32 x.lc, .int .u32 x.lk, .int .u32 x.rc, .int .u32 x.rk, .int .i32 x.ch] 43

set_option maxRecDepth 100000 in
set_option maxHeartbeats 16000000 in
theorem LC.neighbours {F : Nat → Prop} {W : World} {y : Lv} {L : List It} {G : List I2} {t : HT} {ad : I2 → Nat} (h : LC F W y L G t ad) (hl : L.length ≤ 900) (x : It) (hx : knownX L x = true) :
    Calls Try.prog 55 #[itv x, .pointer y.p] W fun e w' => ∃ v, e = .returned v ∧ OwnI W w' v (nbs L x) ∧ Ext W w' := by
  obtain ⟨N1, hN1⟩ : ∃ N1, (if x.lc = 0 then [] else [bare (ilf x) (0, 0)] : List It) = N1 := ⟨_, rfl⟩
  obtain ⟨N2, hN2⟩ : ∃ N2, (if x.rc = 0 ∨ irt x = ilf x then [] else [bare (irt x) (if (hungP L (irt x) (lfR x)).isSome then ilf x else (0, 0))] : List It) = N2 := ⟨_, rfl⟩
  have hnb : nbs L x = N1 ++ N2 := by rw [← hN1, ← hN2]; rfl
  rw [hnb]
  clear hnb
  have x0 : Ext W (W.alloc (icells x)) := (Ext.refl W).alloc _
  have bi := BoxI.newL W x
  replace h := Lib.hid h
  replace hN2 := Lib.hid hN2
  go_enter Try.func55, Try.ntmps55
  go_upto_if 10 with fail
  obtain ⟨b, hb⟩ : ∃ b, decide (x.lc = 0) = b := ⟨_, rfl⟩
  refine (none_lit hb _).mono ?_
  rintro e w1 ⟨rfl, x1⟩
  replace bi := bi.ext x1
  replace x0 := Lib.hid (x0.trans x1)
  obtain ⟨pb, hpb⟩ : ∃ pb, W.heap.size = pb := ⟨_, rfl⟩
  rw [hpb] at bi ⊢
  replace hpb := Lib.hid hpb
  obtain ⟨k0, k1, k2, k3, k4, k5, k6⟩ := bi.cells
  simp only [Nat.zero_add] at k0 k1 k2 k3 k4 k5 k6
  clear x1
  go_upto_if 10 with fail
  go_cut [5] (fun s wx => ∃ v, s = v ∧ Hid (OwnI W wx v N1) ∧ Hid (BoxI wx pb x) ∧ Hid (Ext W wx))
  case first =>
    cases b with
    | true =>
      rw [if_pos (by simpa using hb)] at hN1
      subst hN1
      clear k0 k1 k2 k3 k4 k5 k6
      replace bi := Lib.hid bi
      go_wp2_with fail
      go_meet
      exact ⟨_, rfl, Lib.hid (OwnI.nil _ _), bi, x0⟩
    | false =>
      rw [if_neg (by simpa using hb)] at hN1
      subst hN1
      have bi2 := Lib.hid bi
      clear bi
      go_wp2_with (at_builtin; go_loud (refine wpList_append_I (w0 := W) rfl (.tmp 11) (.tmp 15) rfl _ [] rfl (OwnI.nil _ _) (x0.out.alloc _) _ 1 1 [bare (ilf x) (0, 0)] rfl rfl (ItS.new _ (bare (ilf x) (0, 0))) (by simp) ?_; intro v3 w3 o3 x3 g3 b3))
      go_meet
      exact ⟨_, rfl, Lib.hid o3, Lib.hid ((bi2.out.ext ((Ext.refl _).alloc _)).grown g3 (fun e => by cases (show some pb = none from e))), Lib.hid x3⟩
  case rest =>
    obtain ⟨v, rfl, ho, hbi, hxc⟩ := hcut
    clear x0 bi k0 k1 k2 k3 k4 k5 k6 hb
    have bi := hbi.out
    obtain ⟨k0, k1, k2, k3, k4, k5, k6⟩ := bi.cells
    simp only [Nat.zero_add] at k0 k1 k2 k3 k4 k5 k6
    clear hbi
    replace bi := Lib.hid bi
    obtain ⟨r, hr⟩ : ∃ r, decide (x.rc = 0) = r := ⟨_, rfl⟩
    cases r with
    | true =>
      have hN := hN2.out
      rw [if_pos (.inl (by simpa using hr))] at hN
      subst hN
      go_wp2_with fail
      refine (none_lit hr _).mono ?_
      rintro e w2 ⟨rfl, x2⟩
      have ho2 := Lib.hid (ho.out.ext x2)
      have hE := Lib.hid (hxc.out.trans x2)
      clear x2 k0 k1 k2 k3 k4 k5 k6 hr
      go_wp2
      go_ret
      exact ⟨_, rfl, by rw [List.append_nil]; exact ho2.out, hE.out⟩
    | false =>
      have hrc : x.rc ≠ 0 := by simpa using hr
      obtain ⟨B, hB⟩ : ∃ B, idEq x.rc x.rk x.lc x.lk = B := ⟨_, rfl⟩
      cases B with
      | true =>
        have hN := hN2.out
        have e1 : irt x = ilf x := by
          unfold idEq at hB
          have := of_decide_eq_true hB
          exact Prod.ext this.1 this.2
        rw [if_pos (.inr e1)] at hN
        subst hN
        clear e1
        go_wp2_with fail
        refine (none_lit hr _).mono ?_
        rintro e w2 ⟨rfl, x2⟩
        have ho2 := Lib.hid (ho.out.ext x2)
        have hE := Lib.hid (hxc.out.trans x2)
        obtain ⟨k0, k1, k2, k3, k4, k5, k6⟩ := (bi.out.ext x2).cells
        simp only [Nat.zero_add] at k0 k1 k2 k3 k4 k5 k6
        clear x2 hr hrc
        go_wp2
        go_ret
        exact ⟨_, rfl, by rw [List.append_nil]; exact ho2.out, hE.out⟩
      | false =>
        have hN := hN2.out
        have e1 : ¬ irt x = ilf x := by
          unfold idEq at hB
          intro e
          exact of_decide_eq_false hB ⟨congrArg Prod.fst e, congrArg Prod.snd e⟩
        rw [if_neg (fun e => e.elim hrc e1)] at hN
        have hri := (knownX_spec hx).2.2.2.resolve_left hrc
        have hj1 := Lib.hid (fun w' (hw : Ext W w') => (h.out.ext hw).findIn (c := x.rc) (k := x.rk) hri)
        have hj2 := Lib.hid (fun w' (hw : Ext W w') => (h.out.ext hw).findLf hx)
        have hj3 := Lib.hid (fun w' (hw : Ext W w') => hungOn_any w' (h.out.ext hw).nd hri (lfR_ok hx) (by omega))
        clear e1 hrc hri
        obtain ⟨pf, hpf⟩ := vAd_ptr ad (lfR x)
        rw [hpf] at hj2 hj3
        clear hpf
        change Hid (∀ w', Ext W w' → Calls Try.prog 30 #[.pointer y.p, idv x.rc x.rk] w' fun e w2 => e = .returned (Vp (ad (irt x))) ∧ Ext w' w2) at hj1
        generalize ad (irt x) = pr at *
        obtain ⟨R, hR⟩ : ∃ R, hungP L (irt x) (lfR x) = R := ⟨_, rfl⟩
        rw [hR] at hj3 hN
        clear hR
        go_wp2_with fail
        refine (none_lit hr _).mono ?_
        rintro e w2 ⟨rfl, x2⟩
        have ho2 := Lib.hid (ho.out.ext x2)
        have hE := Lib.hid (hxc.out.trans x2)
        replace bi := bi.out.ext x2
        obtain ⟨k0, k1, k2, k3, k4, k5, k6⟩ := bi.cells
        simp only [Nat.zero_add] at k0 k1 k2 k3 k4 k5 k6
        replace bi := Lib.hid bi
        have bn := BoxI.newL w2 (bare (irt x) (0, 0))
        have xb : Ext w2 (w2.alloc (icells (bare (irt x) (0, 0)))) := (Ext.refl _).alloc _
        clear x2 hr ho hxc
        rw [show (bare (irt x) (0, 0)) = ⟨x.rc, x.rk, 0, 0, 0, 0, 0⟩ from rfl] at bn xb
        have hpl : W.heap.size ≤ w2.heap.size := hE.out.size
        have hvb : u5.ownBlock ≠ some w2.heap.size := fun e => by have := (ho2.out.lt _ e).2; omega
        have hN1l : N1.length ≤ 1 := by rw [← hN1]; split <;> simp
        go_wp2_with fail
        have hE3 := Lib.hid (hE.out.trans xb)
        replace ho2 := Lib.hid (ho2.out.ext xb)
        replace k0 := xb.keep k0
        replace k1 := xb.keep k1
        replace k2 := xb.keep k2
        replace k3 := xb.keep k3
        replace k4 := xb.keep k4
        replace k5 := xb.keep k5
        replace k6 := xb.keep k6
        clear xb
        generalize w2.alloc (icells ⟨x.rc, x.rk, 0, 0, 0, 0, 0⟩) = w3 at *
        generalize w2.heap.size = pn at *
        have k2' := k2
        have k3' := k3
        replace k2 := cell_regrown k2
        replace k3 := cell_regrown k3
        replace k4 := cell_regrown k4
        replace k5 := cell_regrown k5
        clear k0 k1 k6
        cases R with
        | none =>
          rw [show hgV ad none = Vnil from rfl] at hj3
          subst hN
          refine wp_region_quiet_below (by kernel_rfl) (by kernel_rfl) ?_
          repeat go_big_quiet_step ((first | with_reducible exact Calls.in_regrown (hj1.out _ (hE3.out.trans (Ext.regrown _ _ _))) | with_reducible exact Calls.in_regrown (hj2.out _ (hE3.out.trans (Ext.regrown _ _ _))) | with_reducible exact Calls.same_regrown (hj3.out _ (hE3.out.trans (Ext.regrown _ _ _)))))
          refine wpQuiet_nil ?_
          intro _ hw'
          obtain ⟨⟨dq, osq⟩, hw''⟩ := hw'
          subst hw''
          have xr := Ext.regrown w3 dq osq
          have hE4 := Lib.hid (hE3.out.trans xr)
          have ho4 := Lib.hid (ho2.out.ext xr)
          replace bn := bn.ext xr
          replace k2 := k2 dq osq
          replace k3 := k3 dq osq
          clear k2' k3' k4 k5 xr hE3 ho2 hj1 hj2 hj3 bi
          generalize grow (redrawn w3 dq) osq = w4 at *
          obtain ⟨n0, n1, n2, n3, n4, n5, n6⟩ := bn.cells
          simp only [Nat.zero_add] at n0 n1 n2 n3 n4 n5 n6
          clear bn
          go_wp2_with (at_builtin; go_loud (refine wpList_append_I (w0 := W) rfl (.tmp 44) (.tmp 46) rfl _ N1 rfl (ho4.out.ext ((Ext.refl _).alloc _)) (hE4.out.alloc _) _ 1 1 [bare (irt x) (0, 0)] rfl rfl (ItS.new _ (bare (irt x) (0, 0))) (by simp only [List.length_cons, List.length_nil]; omega) ?_; intro v5 w5 o5 x5 g5 b5))
          go_ret
          exact ⟨_, rfl, o5, x5⟩
        | some c =>
          rw [show hgV ad (some c) = Vp (ad c) from rfl] at hj3
          subst hN
          generalize ad c = pc at *
          refine wp_region_quiet_below (by kernel_rfl) (by kernel_rfl) ?_
          repeat go_big_quiet_step ((first | with_reducible exact Calls.in_regrown (hj1.out _ (hE3.out.trans (Ext.regrown _ _ _))) | with_reducible exact Calls.in_regrown (hj2.out _ (hE3.out.trans (Ext.regrown _ _ _))) | with_reducible exact Calls.same_regrown (hj3.out _ (hE3.out.trans (Ext.regrown _ _ _)))))
          refine wpQuiet_nil ?_
          intro _ hw'
          obtain ⟨⟨dq, osq⟩, hw''⟩ := hw'
          subst hw''
          have xr := Ext.regrown w3 dq osq
          have hE4 := Lib.hid (hE3.out.trans xr)
          have ho4 := Lib.hid (ho2.out.ext xr)
          replace bn := bn.ext xr
          replace k2 := k2 dq osq
          replace k3 := k3 dq osq
          clear k2' k3' k4 k5 xr hE3 ho2 hj1 hj2 hj3 bi
          generalize grow (redrawn w3 dq) osq = w4 at *
          have f2 := bn.thawL 2
          have f3 := bn.thawL 3
          obtain ⟨n0, n1, n2, n3, n4, n5, n6⟩ := bn.cells
          simp only [Nat.zero_add] at n0 n1 n2 n3 n4 n5 n6
          clear bn
          have ho5 := Lib.hid (ho4.out.kept (show w4.grownBy ((w4.setCell ⟨pn, 2, none⟩ (Vu x.lc)).setCell ⟨pn, 3, none⟩ (Vu x.lk)) (some pn) from ((RX.refl pn w4).set 2 _ (.inr rfl)).set 3 _ (.inr rfl)) (.inr hvb))
          have hIn := Lib.hid (show ItS (((w4.setCell ⟨pn, 2, none⟩ (Vu x.lc)).setCell ⟨pn, 3, none⟩ (Vu x.lk)).alloc (.cells #[Vu x.rc, Vu x.rk, Vu x.lc, Vu x.lk, Vu 0, Vu 0, .int .i32 0] 43)) (some ⟨w4.heap.size, 0, none⟩) [bare (irt x) (ilf x)] from by
            have h5 := ItS.new ((w4.setCell ⟨pn, 2, none⟩ (Vu x.lc)).setCell ⟨pn, 3, none⟩ (Vu x.lk)) (bare (irt x) (ilf x))
            rwa [show ((w4.setCell ⟨pn, 2, none⟩ (Vu x.lc)).setCell ⟨pn, 3, none⟩ (Vu x.lk)).heap.size = w4.heap.size by simp [World.setCell]] at h5)
          have hE5 := Lib.hid ((hE4.out.setCell (p := ⟨pn, 2, none⟩) hpl (Vu x.lc)).setCell (p := ⟨pn, 3, none⟩) hpl (Vu x.lk))
          go_wp2_with (at_builtin; go_loud (refine wpList_append_I (w0 := W) rfl (.tmp 44) (.tmp 46) rfl _ N1 rfl (ho5.out.ext ((Ext.refl _).alloc _)) (hE5.out.alloc _) _ 1 1 [bare (irt x) (ilf x)] rfl rfl hIn.out (by simp only [List.length_cons, List.length_nil]; omega) ?_; intro v5 w5 o5 x5 g5 b5))
          go_ret
          exact ⟨_, rfl, o5, x5⟩
end Go.Proofs.Ytmpomammieenjaa

namespace Go.Proofs.Ytmpomammieenjaa
open Go.ChangeShapes Go.WideShapes Go.ChangeAt Go.RowKit Go.Sort
set_option linter.unusedVariables false
set_option linter.unusedSimpArgs false
set_option linter.unusedSimpArgs false

set_option maxHeartbeats 4000000 in
set_option maxRecDepth 100000 in
theorem search_any (w : World) (g : Nat) (cb : Array Value) (n : Nat) (p : Nat → Bool) (eg : ∀ args w, (callFunc g args).run Try.prog w = .ok (.enter g args) w) (hn : n ≤ 100000)
    (hf : ∀ W, Ext w W → ∀ i : Nat, i < n → Calls Try.prog g (#[Vi i] ++ cb) W fun e w' => e = .returned (.bool (p i)) ∧ Ext W w')
    (hmono : ∀ a b, a ≤ b → b < n → p a = true → p b = true) :
    Calls Try.prog 83 #[Vi n, .func (.func g) #[] cb] w fun e w' => ∃ r : Nat, e = .returned (Vi r) ∧ (r ≤ n ∧ (∀ t, t < r → p t = false) ∧ (∀ t, r ≤ t → t < n → p t = true)) ∧ Ext w w' := by
  replace hf := Lib.hid hf
  replace hmono := Lib.hid hmono
  go_enter Try.func83, Try.ntmps83
  go_wp2
  go_loopg [5, 6] n (fun kx s5 s6 wr => ∃ (lo hi : Nat), s5 = Vi lo ∧ s6 = Vi hi ∧ lo ≤ hi ∧ hi ≤ n ∧ hi - lo ≤ kx ∧ Ext w wr ∧
    RowKit.Hid ((∀ t, t < lo → p t = false) ∧ (∀ t, hi ≤ t → t < n → p t = true)))
  case atStart => exact ⟨0, n, rfl, rfl, Nat.zero_le _, Nat.le_refl _, by omega, Ext.refl _, Lib.hid ⟨fun t ht => absurd ht (Nat.not_lt_zero _), fun t h1 h2 => by omega⟩⟩
  case round =>
    obtain ⟨lo, hi, rfl, rfl, hlh, hin, hg, hx, I⟩ := hrel
    by_cases hlt : lo < hi
    · obtain ⟨m, hm⟩ : ∃ m, (lo + hi) / 2 = m := ⟨_, rfl⟩
      have hmz := Lib.hid (show ((lo : Int) + (hi : Int)) / 2 = (m : Int) by omega)
      have h1 : lo ≤ m := by omega
      have h2 : m < hi := by omega
      have hc := Lib.hid (hf.out _ hx m (by omega))
      have hbb : (lo : Int) < (hi : Int) := by omega
      have hb2 : (hi : Int) ≤ 100000 := by omega
      replace hg := Lib.hid hg
      replace hx := Lib.hid hx
      clear hn hlt hm
      go_wp2_with fail
      rw [hmz.out]
      refine hc.out.mono ?_
      rintro e w' ⟨rfl, x2⟩
      have hmb : (m : Int) ≤ 100000 := by omega
      clear hbb hb2
      cases hp : p m
      · replace hp := Lib.hid hp
        go_wp2
        go_roundg (hi - (m + 1))
        case measure => have := hg.out; omega
        case rel =>
          exact ⟨m + 1, hi, by simp, rfl, by omega, hin, Nat.le_refl _, hx.out.trans x2, Lib.hid ⟨fun t ht => (by
            cases h : p t with
            | false => rfl
            | true => have := hmono.out t m (by omega) (by omega) h; rw [hp.out] at this; cases this), I.out.2⟩⟩
      · replace hp := Lib.hid hp
        go_wp2
        go_roundg (m - lo)
        case measure => have := hg.out; omega
        case rel =>
          exact ⟨lo, m, rfl, rfl, by omega, by omega, Nat.le_refl _, hx.out.trans x2, Lib.hid ⟨I.out.1, fun t ht htn => hmono.out m t ht htn hp.out⟩⟩
    · obtain rfl : hi = lo := by omega
      replace hx := Lib.hid hx
      go_wp2
      go_ret
      exact ⟨_, rfl, ⟨hin, I.out.1, I.out.2⟩, hx.out⟩
end Go.Proofs.Ytmpomammieenjaa
