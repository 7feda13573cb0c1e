/-
  An index's calls that tell another one; all its calls keep what is asked of them; no claim stands here.
-/
import Derived.Test.YtanknhalgoheeaaYIx
namespace Go.Proofs.Ytanknhalgoheeaa
open Go.ChangeShapes Go.WideShapes Go.ChangeAt Go.RowKit Go.Sort
set_option linter.unusedVariables false
attribute [local go_sem] World.cell?_alloc_some

/-- eight cells are stored -/
theorem st8_row {w : World} {b : Nat} {a0 a1 a2 a3 a4 a5 a6 a7 : Value} {T : TypeId} (h : w.heap[b]? = some (.cells #[a0, a1, a2, a3, a4, a5, a6, a7] T (0, 0))) (v0 v1 v2 v3 v4 v5 v6 v7 : Value) :
    (((((((((w).setCell ⟨b, 0, none⟩ v0).setCell ⟨b, 1, none⟩ v1).setCell ⟨b, 2, none⟩ v2).setCell ⟨b, 3, none⟩ v3).setCell ⟨b, 4, none⟩ v4).setCell ⟨b, 5, none⟩ v5).setCell ⟨b, 6, none⟩ v6).setCell ⟨b, 7, none⟩ v7).heap[b]? = some (.cells #[v0, v1, v2, v3, v4, v5, v6, v7] T (0, 0)) :=
  by
  have h0 : ((w).setCell ⟨b, 0, none⟩ v0).heap[b]? = some (.cells #[v0, a1, a2, a3, a4, a5, a6, a7] T (0, 0)) := heap_setCell_same _ _ 0 _ _ _ h
  have h1 : (((w).setCell ⟨b, 0, none⟩ v0).setCell ⟨b, 1, none⟩ v1).heap[b]? = some (.cells #[v0, v1, a2, a3, a4, a5, a6, a7] T (0, 0)) := heap_setCell_same _ _ 1 _ _ _ h0
  have h2 : ((((w).setCell ⟨b, 0, none⟩ v0).setCell ⟨b, 1, none⟩ v1).setCell ⟨b, 2, none⟩ v2).heap[b]? = some (.cells #[v0, v1, v2, a3, a4, a5, a6, a7] T (0, 0)) := heap_setCell_same _ _ 2 _ _ _ h1
  have h3 : (((((w).setCell ⟨b, 0, none⟩ v0).setCell ⟨b, 1, none⟩ v1).setCell ⟨b, 2, none⟩ v2).setCell ⟨b, 3, none⟩ v3).heap[b]? = some (.cells #[v0, v1, v2, v3, a4, a5, a6, a7] T (0, 0)) := heap_setCell_same _ _ 3 _ _ _ h2
  have h4 : ((((((w).setCell ⟨b, 0, none⟩ v0).setCell ⟨b, 1, none⟩ v1).setCell ⟨b, 2, none⟩ v2).setCell ⟨b, 3, none⟩ v3).setCell ⟨b, 4, none⟩ v4).heap[b]? = some (.cells #[v0, v1, v2, v3, v4, a5, a6, a7] T (0, 0)) := heap_setCell_same _ _ 4 _ _ _ h3
  have h5 : (((((((w).setCell ⟨b, 0, none⟩ v0).setCell ⟨b, 1, none⟩ v1).setCell ⟨b, 2, none⟩ v2).setCell ⟨b, 3, none⟩ v3).setCell ⟨b, 4, none⟩ v4).setCell ⟨b, 5, none⟩ v5).heap[b]? = some (.cells #[v0, v1, v2, v3, v4, v5, a6, a7] T (0, 0)) := heap_setCell_same _ _ 5 _ _ _ h4
  have h6 : ((((((((w).setCell ⟨b, 0, none⟩ v0).setCell ⟨b, 1, none⟩ v1).setCell ⟨b, 2, none⟩ v2).setCell ⟨b, 3, none⟩ v3).setCell ⟨b, 4, none⟩ v4).setCell ⟨b, 5, none⟩ v5).setCell ⟨b, 6, none⟩ v6).heap[b]? = some (.cells #[v0, v1, v2, v3, v4, v5, v6, a7] T (0, 0)) := heap_setCell_same _ _ 6 _ _ _ h5
  have h7 : (((((((((w).setCell ⟨b, 0, none⟩ v0).setCell ⟨b, 1, none⟩ v1).setCell ⟨b, 2, none⟩ v2).setCell ⟨b, 3, none⟩ v3).setCell ⟨b, 4, none⟩ v4).setCell ⟨b, 5, none⟩ v5).setCell ⟨b, 6, none⟩ v6).setCell ⟨b, 7, none⟩ v7).heap[b]? = some (.cells #[v0, v1, v2, v3, v4, v5, v6, v7] T (0, 0)) := heap_setCell_same _ _ 7 _ _ _ h6
  exact h7
theorem st8_other {w : World} {b q : Nat} (hne : q ≠ b) (v0 v1 v2 v3 v4 v5 v6 v7 : Value) : (((((((((w).setCell ⟨b, 0, none⟩ v0).setCell ⟨b, 1, none⟩ v1).setCell ⟨b, 2, none⟩ v2).setCell ⟨b, 3, none⟩ v3).setCell ⟨b, 4, none⟩ v4).setCell ⟨b, 5, none⟩ v5).setCell ⟨b, 6, none⟩ v6).setCell ⟨b, 7, none⟩ v7).heap[q]? = w.heap[q]? := by
  rw [heap_setCell_other _ _ _ _ hne, heap_setCell_other _ _ _ _ hne, heap_setCell_other _ _ _ _ hne, heap_setCell_other _ _ _ _ hne, heap_setCell_other _ _ _ _ hne, heap_setCell_other _ _ _ _ hne, heap_setCell_other _ _ _ _ hne, heap_setCell_other _ _ _ _ hne]
theorem Ext.st8 {w0 w : World} {b : Nat} (h : Ext w0 w) (hb : w0.heap.size ≤ b) (v0 v1 v2 v3 v4 v5 v6 v7 : Value) : Ext w0 (((((((((w).setCell ⟨b, 0, none⟩ v0).setCell ⟨b, 1, none⟩ v1).setCell ⟨b, 2, none⟩ v2).setCell ⟨b, 3, none⟩ v3).setCell ⟨b, 4, none⟩ v4).setCell ⟨b, 5, none⟩ v5).setCell ⟨b, 6, none⟩ v6).setCell ⟨b, 7, none⟩ v7) :=
  ((((((((h.setCell (p := ⟨b, 0, none⟩) hb v0).setCell (p := ⟨b, 1, none⟩) hb v1).setCell (p := ⟨b, 2, none⟩) hb v2).setCell (p := ⟨b, 3, none⟩) hb v3).setCell (p := ⟨b, 4, none⟩) hb v4).setCell (p := ⟨b, 5, none⟩) hb v5).setCell (p := ⟨b, 6, none⟩) hb v6).setCell (p := ⟨b, 7, none⟩) hb v7)
/-- a part's block, its form -/
theorem AtP.form {G : Nat → Prop} {W : World} {b : Nat} {t : Tr} (h : AtP G W b t) : ∃ A n c lp rp, PtC W b (.slice A n c) (.pointer lp) (.pointer rp) (htT t) (cnt t) (shw t) (loT t) (hiT t) ∧ PV G W t (.slice A n c) (.pointer lp) (.pointer rp) := by
  obtain ⟨_, c, l, r, x, v⟩ := h
  cases t with
  | leaf l0 =>
    obtain ⟨rfl, rfl, A, cap, rfl, h4, h5, h6⟩ := v
    exact ⟨A, l0.length, cap, none, none, x, rfl, rfl, A, cap, rfl, h4, h5, h6⟩
  | node ta tb =>
    obtain ⟨rfl, p, q, rfl, rfl, hp, hq⟩ := v.node
    exact ⟨none, 0, 0, some ⟨p, 0, none⟩, some ⟨q, 0, none⟩, x, PV.of_node hp hq⟩
/-- what a part is, is an index -/
theorem ix_of {G : Nat → Prop} {w3 w4 : World} {t : Tr} {l : List En} {A : Option Addr} {n c : Nat} {lp rp : Option Addr} (hv : PV G w3 t (.slice A n c) (.pointer lp) (.pointer rp)) (hE : ents t = l) (hok : t = .leaf [] ∨ okT t)
    (hf : ∀ b, G b → w4.heap[b]? = w3.heap[b]?) (hs : w3.heap.size ≤ w4.heap.size) : Ix (fun b => G b ∧ b < w3.heap.size) w4 (.agg #[.slice A n c, .pointer lp, .pointer rp, Vi (htT t), Vi (cnt t), Vi (shw t), Vq (loT t), Vq (hiT t)]) l :=
  ⟨t, ⟨A, n, c, lp, rp, htT t, cnt t, shw t, loT t, hiT t⟩, rfl, hE, hok, rfl, rfl, rfl, rfl, rfl, (hv.lt).frame (fun b hb => hf b hb.1), fun b hb => Nat.lt_of_lt_of_le hb.2 hs⟩
theorem st8_size {w : World} {b : Nat} (v0 v1 v2 v3 v4 v5 v6 v7 : Value) : (((((((((w).setCell ⟨b, 0, none⟩ v0).setCell ⟨b, 1, none⟩ v1).setCell ⟨b, 2, none⟩ v2).setCell ⟨b, 3, none⟩ v3).setCell ⟨b, 4, none⟩ v4).setCell ⟨b, 5, none⟩ v5).setCell ⟨b, 6, none⟩ v6).setCell ⟨b, 7, none⟩ v7).heap.size = w.heap.size := by simp [World.setCell]

set_option maxRecDepth 100000 in
set_option maxHeartbeats 16000000 in
theorem of_ix (W : World) (A : Option Addr) (n c : Nat) (l : List En) (hv : EnS W A l) (hn : l.length = n) (hc : n ≤ c) (hb : n ≤ 1000) :
    Calls Try.prog 7 #[.slice A n c] W fun e w' => ∃ F v, e = .returned v ∧ Ix F w' v l ∧ (∀ b, F b → W.heap.size ≤ b) ∧ Ext W w' := by
  have x1 : Ext W (W.alloc (.cells #[.slice none 0 0, .pointer none, .pointer none, Vi 0, Vi 0, Vi 0, Vq 0, Vq 0] 31)) := (Ext.refl W).alloc _
  have hr1 : (W.alloc (.cells #[.slice none 0 0, .pointer none, .pointer none, Vi 0, Vi 0, Vi 0, Vq 0, Vq 0] 31)).heap[W.heap.size]? = some (.cells #[.slice none 0 0, .pointer none, .pointer none, Vi 0, Vi 0, Vi 0, Vq 0, Vq 0] 31 (0, 0)) := heap_alloc_new W _
  have hsz : (W.alloc (.cells #[.slice none 0 0, .pointer none, .pointer none, Vi 0, Vi 0, Vi 0, Vq 0, Vq 0] 31)).heap.size = W.heap.size + 1 := by simp
  obtain ⟨W1, hW1⟩ : ∃ Z, W.alloc (.cells #[.slice none 0 0, .pointer none, .pointer none, Vi 0, Vi 0, Vi 0, Vq 0, Vq 0] 31) = Z := ⟨_, rfl⟩
  obtain ⟨rb, hrb⟩ : ∃ z, W.heap.size = z := ⟨_, rfl⟩
  rw [hW1] at x1 hr1 hsz
  rw [hrb] at hr1 hsz
  have hp := Lib.hid (partOf_any (G := fun b => rb + 1 ≤ b) _ l A n c W1 (Nat.le_refl _) (hv.ext x1) hn hc (by omega) (fun b hb => by omega))
  have hge : W.heap.size ≤ rb := by omega
  replace hW1 := Lib.hid hW1
  replace hrb := Lib.hid hrb
  go_enter Try.func7, Try.ntmps7
  go_wp2_with fail
  rw [hW1.out, hrb.out]
  refine hp.out.mono ?_
  rintro e w3 ⟨v3, rfl, ⟨q3, rfl, hA3⟩, x3⟩
  have hXa := x1.trans x3
  have hrz := (RowKit.Below.block x3 rb (Array.getElem?_eq_some_iff.1 hr1).1).trans hr1
  have hent3 : ents (partTr l) = l := ents_part l
  have hok3 : partTr l = .leaf [] ∨ okT (partTr l) := by
    cases hl : l with
    | nil => exact .inl (part_small (by simp))
    | cons y l' => exact .inr (part_ok (by simp))
  have hGn : ∀ b, (fun b => rb + 1 ≤ b) b → b ≠ rb := fun b hb e => by have : rb + 1 ≤ b := hb; omega
  have hFn : ∀ b, ((fun b => rb + 1 ≤ b) b ∧ b < w3.heap.size) → W.heap.size ≤ b := fun b hb => by have : rb + 1 ≤ b := hb.1; have := hrb.out; omega
  obtain ⟨T9, hT9⟩ : ∃ z, partTr l = z := ⟨_, rfl⟩
  rw [hT9] at hA3 hent3 hok3
  clear hT9
  obtain ⟨A3, n3, c3, l3, r3, ⟨d0, d1, d2, d3, d4, d5, d6, d7⟩, hv3⟩ := hA3.form
  have k0 := cell_of_row w3 rb 0 _ _ _ hrz
  have f0 := frozen_of_row w3 rb 0 _ _ hrz
  have k1 := cell_of_row w3 rb 1 _ _ _ hrz
  have f1 := frozen_of_row w3 rb 1 _ _ hrz
  have k2 := cell_of_row w3 rb 2 _ _ _ hrz
  have f2 := frozen_of_row w3 rb 2 _ _ hrz
  have k3 := cell_of_row w3 rb 3 _ _ _ hrz
  have f3 := frozen_of_row w3 rb 3 _ _ hrz
  have k4 := cell_of_row w3 rb 4 _ _ _ hrz
  have f4 := frozen_of_row w3 rb 4 _ _ hrz
  have k5 := cell_of_row w3 rb 5 _ _ _ hrz
  have f5 := frozen_of_row w3 rb 5 _ _ hrz
  have k6 := cell_of_row w3 rb 6 _ _ _ hrz
  have f6 := frozen_of_row w3 rb 6 _ _ hrz
  have k7 := cell_of_row w3 rb 7 _ _ _ hrz
  have f7 := frozen_of_row w3 rb 7 _ _ hrz
  have hz := st8_row hrz (.slice A3 n3 c3) (.pointer l3) (.pointer r3) (Vi (htT T9)) (Vi (cnt T9)) (Vi (shw T9)) (Vq (loT T9)) (Vq (hiT T9))
  have hx4 := Ext.st8 hXa hge (.slice A3 n3 c3) (.pointer l3) (.pointer r3) (Vi (htT T9)) (Vi (cnt T9)) (Vi (shw T9)) (Vq (loT T9)) (Vq (hiT T9))
  have hfr := fun (q : Nat) (hq : q ≠ rb) => st8_other (w := w3) hq (.slice A3 n3 c3) (.pointer l3) (.pointer r3) (Vi (htT T9)) (Vi (cnt T9)) (Vi (shw T9)) (Vq (loT T9)) (Vq (hiT T9))
  have hsz4 := st8_size (w := w3) (b := rb) (.slice A3 n3 c3) (.pointer l3) (.pointer r3) (Vi (htT T9)) (Vi (cnt T9)) (Vi (shw T9)) (Vq (loT T9)) (Vq (hiT T9))
  have hix := Lib.hid (ix_of hv3 hent3 hok3 (fun b hb => hfr b (hGn b hb)) (Nat.le_of_eq hsz4.symm))
  clear hfr hv3
  go_wp2
  have z0 := cell_of_row _ rb 0 _ _ _ hz
  have z1 := cell_of_row _ rb 1 _ _ _ hz
  have z2 := cell_of_row _ rb 2 _ _ _ hz
  have z3 := cell_of_row _ rb 3 _ _ _ hz
  have z4 := cell_of_row _ rb 4 _ _ _ hz
  have z5 := cell_of_row _ rb 5 _ _ _ hz
  have z6 := cell_of_row _ rb 6 _ _ _ hz
  have z7 := cell_of_row _ rb 7 _ _ _ hz
  exact bodyPost_ret (v := .agg #[.slice A3 n3 c3, .pointer l3, .pointer r3, Vi (htT T9), Vi (cnt T9), Vi (shw T9), Vq (loT T9), Vq (hiT T9)]) (by simp [results, Try.results7, go_sem, z0, z1, z2, z3, z4, z5, z6, z7]) rfl ⟨_, _, rfl, hix.out, hFn, hx4⟩

set_option maxRecDepth 100000 in
set_option maxHeartbeats 16000000 in
theorem put_ix {F : Nat → Prop} (W : World) (v : Value) (l : List En) (p : Nat) (x : En) (h : Ix F W v l) (hl : l.length ≤ 999) (hp : p ≤ l.length) (hno : hasE l x.c x.k = false) :
    Calls Try.prog 12 #[v, Vi (p : Int), env x] W fun e w' => ∃ F' v', e = .returned (.tuple #[v', .nilIface]) ∧ Ix F' w' v' (putE l p x) ∧ (∀ b, F' b → F b ∨ W.heap.size ≤ b) ∧ Ext W w' := by
  obtain ⟨G, hG⟩ : ∃ G : Nat → Prop, G = (fun b => F b ∨ b = W.heap.size ∨ W.heap.size + 3 ≤ b) := ⟨_, rfl⟩
  have hF0 : ∀ b, F b → G b := fun b hb => by rw [hG]; exact .inl hb
  have hG0 : G W.heap.size := by rw [hG]; exact .inr (.inl rfl)
  have h' := h
  obtain ⟨t, A, n, c, lp, rp, rfl, hE, hok, hFl, hbox⟩ := h.box
  have hcn : cnt t = l.length := by rw [← hE]; rfl
  have x1 : Ext W (W.alloc (.cells #[.slice A n c, .pointer lp, .pointer rp, Vi (htT t), Vi (cnt t), Vi (shw t), Vq (loT t), Vq (hiT t)] 31)) := (Ext.refl W).alloc _
  have hA := hbox G _ hF0 hG0 (Ext.refl _)
  obtain ⟨W1, hW1⟩ : ∃ Z, W.alloc (.cells #[.slice A n c, .pointer lp, .pointer rp, Vi (htT t), Vi (cnt t), Vi (shw t), Vq (loT t), Vq (hiT t)] 31) = Z := ⟨_, rfl⟩
  obtain ⟨pb, hpb⟩ : ∃ z, W.heap.size = z := ⟨_, rfl⟩
  have hs1 : W1.heap.size = pb + 1 := by rw [← hW1, ← hpb]; simp
  rw [hW1] at hA x1
  rw [hpb] at hA
  have x2 : Ext W1 (W1.alloc (.cells #[.int .u32 x.c, .int .u32 x.k, .int .i32 x.ch, .bool x.g] 38)) := (Ext.refl W1).alloc _
  have y0 : (W1.alloc (.cells #[.int .u32 x.c, .int .u32 x.k, .int .i32 x.ch, .bool x.g] 38)).heap[pb + 1]? = some (.cells #[.int .u32 x.c, .int .u32 x.k, .int .i32 x.ch, .bool x.g] 38 (0, 0)) := by rw [← hs1]; exact heap_alloc_new W1 _
  obtain ⟨W2, hW2⟩ : ∃ Z, W1.alloc (.cells #[.int .u32 x.c, .int .u32 x.k, .int .i32 x.ch, .bool x.g] 38) = Z := ⟨_, rfl⟩
  have hs2 : W2.heap.size = pb + 1 + 1 := by rw [← hW2, ← hs1]; simp
  rw [hW2] at x2 y0
  have x3 : Ext W2 (W2.alloc (.cells #[.slice none 0 0, .pointer none, .pointer none, Vi 0, Vi 0, Vi 0, Vq 0, Vq 0] 31)) := (Ext.refl W2).alloc _
  have hr0 : (W2.alloc (.cells #[.slice none 0 0, .pointer none, .pointer none, Vi 0, Vi 0, Vi 0, Vq 0, Vq 0] 31)).heap[pb + 2]? = some (.cells #[.slice none 0 0, .pointer none, .pointer none, Vi 0, Vi 0, Vi 0, Vq 0, Vq 0] 31 (0, 0)) := by rw [show pb + 2 = W2.heap.size by omega]; exact heap_alloc_new W2 _
  obtain ⟨W3, hW3⟩ : ∃ Z, W2.alloc (.cells #[.slice none 0 0, .pointer none, .pointer none, Vi 0, Vi 0, Vi 0, Vq 0, Vq 0] 31) = Z := ⟨_, rfl⟩
  have hs3 : W3.heap.size = pb + 3 := by rw [← hW3, show pb + 3 = W2.heap.size + 1 by omega]; simp
  rw [hW3] at x3 hr0
  have hX3 := (x1.trans x2).trans x3
  have hA := (hA.ext x2).ext x3
  have y3 := (RowKit.Below.block x3 (pb + 1) (Array.getElem?_eq_some_iff.1 y0).1).trans y0
  obtain ⟨rb, hrb⟩ : ∃ z, pb + 2 = z := ⟨_, rfl⟩
  rw [hrb] at hr0
  have hge : W.heap.size ≤ rb := by omega
  have hGn : ∀ b, G b → b ≠ rb := fun b hb e => by
    rw [hG] at hb
    rcases hb with hb | hb | hb
    · have := hFl b hb; omega
    · omega
    · omega
  have hUp : Up G W3 := fun b hb => by rw [hG]; exact .inr (.inr (by omega))
  have hFs : ∀ b, G b → F b ∨ W.heap.size ≤ b := fun b hb => by
    rw [hG] at hb
    rcases hb with hb | hb | hb
    · exact .inl hb
    · exact .inr (by omega)
    · exact .inr (by omega)
  have hbx : PtC W3 pb (.slice A n c) (.pointer lp) (.pointer rp) (htT t) (cnt t) (shw t) (loT t) (hiT t) := by
    have := (PtC.new W (.slice A n c) (.pointer lp) (.pointer rp) (htT t) (cnt t) (shw t) (loT t) (hiT t) 31)
    rw [hW1, hpb] at this
    exact (this.ext x2).ext x3
  have e0 := cell_of_row W3 (pb + 1) 0 _ _ _ y3
  have e1 := cell_of_row W3 (pb + 1) 1 _ _ _ y3
  have e2 := cell_of_row W3 (pb + 1) 2 _ _ _ y3
  have e3 := cell_of_row W3 (pb + 1) 3 _ _ _ y3
  have g1 : decide ((p : Int) < 0) = false := by rw [decide_eq_false_iff_not]; omega
  have g2 : decide ((cnt t : Int) < (p : Int)) = false := by rw [decide_eq_false_iff_not]; omega
  have g3 : decide (cnt t < p) = false := by rw [decide_eq_false_iff_not]; omega
  have hfv : fndV l x.c x.k = 0 ∧ fndB l x.c x.k = false := by
    have := find_none.2 hno
    unfold fndV fndB
    rw [this]
    exact ⟨rfl, rfl⟩
  have hfi := find_ix W3 _ l x.c x.k (h'.ext hX3) (by omega)
  rw [hfv.1, hfv.2] at hfi
  replace hfi := Lib.hid hfi
  have hput := Lib.hid (fun Z (hx : Ext W3 Z) => put_any x t pb p Z (hA.ext hx) (hUp.ext hx) hok (by omega) (by omega))
  have hent3 : ents (putTr t p x) = putE l p x := by rw [putTr_ents t p x (by omega), hE]
  have hok3 : putTr t p x = .leaf [] ∨ okT (putTr t p x) := .inr (putTr_ok t p x hok)
  obtain ⟨p0, p1, p2, p3, p4, p5, p6, p7⟩ := hbx
  clear hA hbox h h' hfv hno hG hF0 hG0 x1 x2 x3 y0 hs1 hs2 hs3 y3
  replace hW1 := Lib.hid hW1
  replace hW2 := Lib.hid hW2
  replace hW3 := Lib.hid hW3
  replace hpb := Lib.hid hpb
  replace hrb := Lib.hid hrb
  replace hcn := Lib.hid hcn
  go_enter Try.func12, Try.ntmps12
  go_wp2_with fail
  rw [hW1.out, hpb.out, hW2.out, hW3.out, hrb.out]
  refine hfi.out.mono ?_
  rintro e w4 ⟨rfl, x4⟩
  have e0 := x4.keep e0
  have e1 := x4.keep e1
  have e2 := x4.keep e2
  have e3 := x4.keep e3
  clear p0 p1 p2 p3 p4 p5 p6 p7
  go_wp2_with fail
  refine (hput.out _ x4).mono ?_
  rintro e w3 ⟨v3, rfl, ⟨q3, rfl, hA3⟩, x5⟩
  have hXa := (hX3.trans x4).trans x5
  have hrz := (RowKit.Below.block (x4.trans x5) rb (Array.getElem?_eq_some_iff.1 hr0).1).trans hr0
  have hFn : ∀ b, (G b ∧ b < w3.heap.size) → F b ∨ W.heap.size ≤ b := fun b hb => hFs b hb.1
  obtain ⟨T9, hT9⟩ : ∃ z, putTr t p x = z := ⟨_, rfl⟩
  rw [hT9] at hA3 hent3 hok3
  clear hT9
  obtain ⟨A3, n3, c3, l3, r3, ⟨d0, d1, d2, d3, d4, d5, d6, d7⟩, hv3⟩ := hA3.form
  have k0 := cell_of_row w3 rb 0 _ _ _ hrz
  have f0 := frozen_of_row w3 rb 0 _ _ hrz
  have k1 := cell_of_row w3 rb 1 _ _ _ hrz
  have f1 := frozen_of_row w3 rb 1 _ _ hrz
  have k2 := cell_of_row w3 rb 2 _ _ _ hrz
  have f2 := frozen_of_row w3 rb 2 _ _ hrz
  have k3 := cell_of_row w3 rb 3 _ _ _ hrz
  have f3 := frozen_of_row w3 rb 3 _ _ hrz
  have k4 := cell_of_row w3 rb 4 _ _ _ hrz
  have f4 := frozen_of_row w3 rb 4 _ _ hrz
  have k5 := cell_of_row w3 rb 5 _ _ _ hrz
  have f5 := frozen_of_row w3 rb 5 _ _ hrz
  have k6 := cell_of_row w3 rb 6 _ _ _ hrz
  have f6 := frozen_of_row w3 rb 6 _ _ hrz
  have k7 := cell_of_row w3 rb 7 _ _ _ hrz
  have f7 := frozen_of_row w3 rb 7 _ _ hrz
  have hz := st8_row hrz (.slice A3 n3 c3) (.pointer l3) (.pointer r3) (Vi (htT T9)) (Vi (cnt T9)) (Vi (shw T9)) (Vq (loT T9)) (Vq (hiT T9))
  have hx4 := Ext.st8 hXa hge (.slice A3 n3 c3) (.pointer l3) (.pointer r3) (Vi (htT T9)) (Vi (cnt T9)) (Vi (shw T9)) (Vq (loT T9)) (Vq (hiT T9))
  have hfr := fun (q : Nat) (hq : q ≠ rb) => st8_other (w := w3) hq (.slice A3 n3 c3) (.pointer l3) (.pointer r3) (Vi (htT T9)) (Vi (cnt T9)) (Vi (shw T9)) (Vq (loT T9)) (Vq (hiT T9))
  have hsz4 := st8_size (w := w3) (b := rb) (.slice A3 n3 c3) (.pointer l3) (.pointer r3) (Vi (htT T9)) (Vi (cnt T9)) (Vi (shw T9)) (Vq (loT T9)) (Vq (hiT T9))
  have hix := Lib.hid (ix_of hv3 hent3 hok3 (fun b hb => hfr b (hGn b hb)) (Nat.le_of_eq hsz4.symm))
  clear hfr hv3
  go_wp2
  have z0 := cell_of_row _ rb 0 _ _ _ hz
  have z1 := cell_of_row _ rb 1 _ _ _ hz
  have z2 := cell_of_row _ rb 2 _ _ _ hz
  have z3 := cell_of_row _ rb 3 _ _ _ hz
  have z4 := cell_of_row _ rb 4 _ _ _ hz
  have z5 := cell_of_row _ rb 5 _ _ _ hz
  have z6 := cell_of_row _ rb 6 _ _ _ hz
  have z7 := cell_of_row _ rb 7 _ _ _ hz
  exact bodyPost_ret (v := .tuple #[.agg #[.slice A3 n3 c3, .pointer l3, .pointer r3, Vi (htT T9), Vi (cnt T9), Vi (shw T9), Vq (loT T9), Vq (hiT T9)], .nilIface]) (by simp [results, Try.results12, go_sem, z0, z1, z2, z3, z4, z5, z6, z7]) rfl ⟨_, _, rfl, hix.out, hFn, hx4⟩
set_option maxRecDepth 100000 in
set_option maxHeartbeats 16000000 in
theorem putArg_ix {F : Nat → Prop} (W : World) (v : Value) (l : List En) (p : Nat) (x : En) (h : Ix F W v l) (hl : l.length ≤ 1000) (hp : p ≤ l.length) (hyes : hasE l x.c x.k = true) :
    Calls Try.prog 12 #[v, Vi (p : Int), env x] W fun e w' => e = .returned (.tuple #[zeroX, errv 1]) ∧ Ext W w' := by
  obtain ⟨G, hG⟩ : ∃ G : Nat → Prop, G = (fun b => F b ∨ b = W.heap.size ∨ W.heap.size + 3 ≤ b) := ⟨_, rfl⟩
  have hF0 : ∀ b, F b → G b := fun b hb => by rw [hG]; exact .inl hb
  have hG0 : G W.heap.size := by rw [hG]; exact .inr (.inl rfl)
  have h' := h
  obtain ⟨t, A, n, c, lp, rp, rfl, hE, hok, hFl, hbox⟩ := h.box
  have hcn : cnt t = l.length := by rw [← hE]; rfl
  have x1 : Ext W (W.alloc (.cells #[.slice A n c, .pointer lp, .pointer rp, Vi (htT t), Vi (cnt t), Vi (shw t), Vq (loT t), Vq (hiT t)] 31)) := (Ext.refl W).alloc _
  have hA := hbox G _ hF0 hG0 (Ext.refl _)
  obtain ⟨W1, hW1⟩ : ∃ Z, W.alloc (.cells #[.slice A n c, .pointer lp, .pointer rp, Vi (htT t), Vi (cnt t), Vi (shw t), Vq (loT t), Vq (hiT t)] 31) = Z := ⟨_, rfl⟩
  obtain ⟨pb, hpb⟩ : ∃ z, W.heap.size = z := ⟨_, rfl⟩
  have hs1 : W1.heap.size = pb + 1 := by rw [← hW1, ← hpb]; simp
  rw [hW1] at hA x1
  rw [hpb] at hA
  have x2 : Ext W1 (W1.alloc (.cells #[.int .u32 x.c, .int .u32 x.k, .int .i32 x.ch, .bool x.g] 38)) := (Ext.refl W1).alloc _
  have y0 : (W1.alloc (.cells #[.int .u32 x.c, .int .u32 x.k, .int .i32 x.ch, .bool x.g] 38)).heap[pb + 1]? = some (.cells #[.int .u32 x.c, .int .u32 x.k, .int .i32 x.ch, .bool x.g] 38 (0, 0)) := by rw [← hs1]; exact heap_alloc_new W1 _
  obtain ⟨W2, hW2⟩ : ∃ Z, W1.alloc (.cells #[.int .u32 x.c, .int .u32 x.k, .int .i32 x.ch, .bool x.g] 38) = Z := ⟨_, rfl⟩
  have hs2 : W2.heap.size = pb + 1 + 1 := by rw [← hW2, ← hs1]; simp
  rw [hW2] at x2 y0
  have x3 : Ext W2 (W2.alloc (.cells #[.slice none 0 0, .pointer none, .pointer none, Vi 0, Vi 0, Vi 0, Vq 0, Vq 0] 31)) := (Ext.refl W2).alloc _
  have hr0 : (W2.alloc (.cells #[.slice none 0 0, .pointer none, .pointer none, Vi 0, Vi 0, Vi 0, Vq 0, Vq 0] 31)).heap[pb + 2]? = some (.cells #[.slice none 0 0, .pointer none, .pointer none, Vi 0, Vi 0, Vi 0, Vq 0, Vq 0] 31 (0, 0)) := by rw [show pb + 2 = W2.heap.size by omega]; exact heap_alloc_new W2 _
  obtain ⟨W3, hW3⟩ : ∃ Z, W2.alloc (.cells #[.slice none 0 0, .pointer none, .pointer none, Vi 0, Vi 0, Vi 0, Vq 0, Vq 0] 31) = Z := ⟨_, rfl⟩
  have hs3 : W3.heap.size = pb + 3 := by rw [← hW3, show pb + 3 = W2.heap.size + 1 by omega]; simp
  rw [hW3] at x3 hr0
  have hX3 := (x1.trans x2).trans x3
  have hA := (hA.ext x2).ext x3
  have y3 := (RowKit.Below.block x3 (pb + 1) (Array.getElem?_eq_some_iff.1 y0).1).trans y0
  obtain ⟨rb, hrb⟩ : ∃ z, pb + 2 = z := ⟨_, rfl⟩
  rw [hrb] at hr0
  have hge : W.heap.size ≤ rb := by omega
  have hbx : PtC W3 pb (.slice A n c) (.pointer lp) (.pointer rp) (htT t) (cnt t) (shw t) (loT t) (hiT t) := by
    have := (PtC.new W (.slice A n c) (.pointer lp) (.pointer rp) (htT t) (cnt t) (shw t) (loT t) (hiT t) 31)
    rw [hW1, hpb] at this
    exact (this.ext x2).ext x3
  have e0 := cell_of_row W3 (pb + 1) 0 _ _ _ y3
  have e1 := cell_of_row W3 (pb + 1) 1 _ _ _ y3
  have e2 := cell_of_row W3 (pb + 1) 2 _ _ _ y3
  have e3 := cell_of_row W3 (pb + 1) 3 _ _ _ y3
  have g1 : decide ((p : Int) < 0) = false := by rw [decide_eq_false_iff_not]; omega
  have g2 : decide ((cnt t : Int) < (p : Int)) = false := by rw [decide_eq_false_iff_not]; omega
  have g3 : decide (cnt t < p) = false := by rw [decide_eq_false_iff_not]; omega
  have hfv : fndB l x.c x.k = true := by
    unfold fndB
    cases hf : findE l x.c x.k with
    | none => rw [find_none.1 hf] at hyes; cases hyes
    | some i => rfl
  have hfi := find_ix W3 _ l x.c x.k (h'.ext hX3) (by omega)
  rw [hfv] at hfi
  replace hfi := Lib.hid hfi
  obtain ⟨p0, p1, p2, p3, p4, p5, p6, p7⟩ := hbx
  clear hfv hyes
  clear hA hbox h h' hG hF0 hG0 x1 x2 x3 y0 hs1 hs2 hs3 y3
  replace hW1 := Lib.hid hW1
  replace hW2 := Lib.hid hW2
  replace hW3 := Lib.hid hW3
  replace hpb := Lib.hid hpb
  replace hrb := Lib.hid hrb
  replace hcn := Lib.hid hcn
  go_enter Try.func12, Try.ntmps12
  go_wp2_with fail
  rw [hW1.out, hpb.out, hW2.out, hW3.out, hrb.out]
  refine hfi.out.mono ?_
  rintro e w3 ⟨rfl, x4⟩
  have hXa := hX3.trans x4
  have hrz := (RowKit.Below.block x4 rb (Array.getElem?_eq_some_iff.1 hr0).1).trans hr0
  clear p0 p1 p2 p3 p4 p5 p6 p7 e0 e1 e2 e3
  have k0 := cell_of_row w3 rb 0 _ _ _ hrz
  have f0 := frozen_of_row w3 rb 0 _ _ hrz
  have k1 := cell_of_row w3 rb 1 _ _ _ hrz
  have f1 := frozen_of_row w3 rb 1 _ _ hrz
  have k2 := cell_of_row w3 rb 2 _ _ _ hrz
  have f2 := frozen_of_row w3 rb 2 _ _ hrz
  have k3 := cell_of_row w3 rb 3 _ _ _ hrz
  have f3 := frozen_of_row w3 rb 3 _ _ hrz
  have k4 := cell_of_row w3 rb 4 _ _ _ hrz
  have f4 := frozen_of_row w3 rb 4 _ _ hrz
  have k5 := cell_of_row w3 rb 5 _ _ _ hrz
  have f5 := frozen_of_row w3 rb 5 _ _ hrz
  have k6 := cell_of_row w3 rb 6 _ _ _ hrz
  have f6 := frozen_of_row w3 rb 6 _ _ hrz
  have k7 := cell_of_row w3 rb 7 _ _ _ hrz
  have f7 := frozen_of_row w3 rb 7 _ _ hrz
  have hz := st8_row hrz (.slice none 0 0) (.pointer none) (.pointer none) (Vi 0) (Vi 0) (Vi 0) (Vq 0) (Vq 0)
  have hx4 := Ext.st8 hXa hge (.slice none 0 0) (.pointer none) (.pointer none) (Vi 0) (Vi 0) (Vi 0) (Vq 0) (Vq 0)
  go_wp2
  have z0 := cell_of_row _ rb 0 _ _ _ hz
  have z1 := cell_of_row _ rb 1 _ _ _ hz
  have z2 := cell_of_row _ rb 2 _ _ _ hz
  have z3 := cell_of_row _ rb 3 _ _ _ hz
  have z4 := cell_of_row _ rb 4 _ _ _ hz
  have z5 := cell_of_row _ rb 5 _ _ _ hz
  have z6 := cell_of_row _ rb 6 _ _ _ hz
  have z7 := cell_of_row _ rb 7 _ _ _ hz
  exact bodyPost_ret (v := .tuple #[zeroX, errv 1]) (by simp [results, Try.results12, go_sem, errv, z0, z1, z2, z3, z4, z5, z6, z7]) rfl ⟨rfl, hx4⟩
set_option maxRecDepth 100000 in
set_option maxHeartbeats 16000000 in
theorem hideNo_ix {F : Nat → Prop} (W : World) (v : Value) (l : List En) (c0 k0 : Int) (h : Ix F W v l) (hl : l.length ≤ 1000) (hno : findE l c0 k0 = none) :
    Calls Try.prog 11 #[v, idv c0 k0] W fun e w' => e = .returned (.tuple #[zeroX, errv 1]) ∧ Ext W w' := by
  obtain ⟨G, hG⟩ : ∃ G : Nat → Prop, G = (fun b => F b ∨ b = W.heap.size ∨ W.heap.size + 3 ≤ b) := ⟨_, rfl⟩
  have hF0 : ∀ b, F b → G b := fun b hb => by rw [hG]; exact .inl hb
  have hG0 : G W.heap.size := by rw [hG]; exact .inr (.inl rfl)
  have h' := h
  obtain ⟨t, A, n, c, lp, rp, rfl, hE, hok, hFl, hbox⟩ := h.box
  have hcn : cnt t = l.length := by rw [← hE]; rfl
  have x1 : Ext W (W.alloc (.cells #[.slice A n c, .pointer lp, .pointer rp, Vi (htT t), Vi (cnt t), Vi (shw t), Vq (loT t), Vq (hiT t)] 31)) := (Ext.refl W).alloc _
  have hA := hbox G _ hF0 hG0 (Ext.refl _)
  obtain ⟨W1, hW1⟩ : ∃ Z, W.alloc (.cells #[.slice A n c, .pointer lp, .pointer rp, Vi (htT t), Vi (cnt t), Vi (shw t), Vq (loT t), Vq (hiT t)] 31) = Z := ⟨_, rfl⟩
  obtain ⟨pb, hpb⟩ : ∃ z, W.heap.size = z := ⟨_, rfl⟩
  have hs1 : W1.heap.size = pb + 1 := by rw [← hW1, ← hpb]; simp
  rw [hW1] at hA x1
  rw [hpb] at hA
  have x2 : Ext W1 (W1.alloc (.cells #[.int .u32 c0, .int .u32 k0] 36)) := (Ext.refl W1).alloc _
  have y0 : (W1.alloc (.cells #[.int .u32 c0, .int .u32 k0] 36)).heap[pb + 1]? = some (.cells #[.int .u32 c0, .int .u32 k0] 36 (0, 0)) := by rw [← hs1]; exact heap_alloc_new W1 _
  obtain ⟨W2, hW2⟩ : ∃ Z, W1.alloc (.cells #[.int .u32 c0, .int .u32 k0] 36) = Z := ⟨_, rfl⟩
  have hs2 : W2.heap.size = pb + 1 + 1 := by rw [← hW2, ← hs1]; simp
  rw [hW2] at x2 y0
  have x3 : Ext W2 (W2.alloc (.cells #[.slice none 0 0, .pointer none, .pointer none, Vi 0, Vi 0, Vi 0, Vq 0, Vq 0] 31)) := (Ext.refl W2).alloc _
  have hr0 : (W2.alloc (.cells #[.slice none 0 0, .pointer none, .pointer none, Vi 0, Vi 0, Vi 0, Vq 0, Vq 0] 31)).heap[pb + 2]? = some (.cells #[.slice none 0 0, .pointer none, .pointer none, Vi 0, Vi 0, Vi 0, Vq 0, Vq 0] 31 (0, 0)) := by rw [show pb + 2 = W2.heap.size by omega]; exact heap_alloc_new W2 _
  obtain ⟨W3, hW3⟩ : ∃ Z, W2.alloc (.cells #[.slice none 0 0, .pointer none, .pointer none, Vi 0, Vi 0, Vi 0, Vq 0, Vq 0] 31) = Z := ⟨_, rfl⟩
  have hs3 : W3.heap.size = pb + 3 := by rw [← hW3, show pb + 3 = W2.heap.size + 1 by omega]; simp
  rw [hW3] at x3 hr0
  have hX3 := (x1.trans x2).trans x3
  have hA := (hA.ext x2).ext x3
  have y3 := (RowKit.Below.block x3 (pb + 1) (Array.getElem?_eq_some_iff.1 y0).1).trans y0
  obtain ⟨rb, hrb⟩ : ∃ z, pb + 2 = z := ⟨_, rfl⟩
  rw [hrb] at hr0
  have hge : W.heap.size ≤ rb := by omega
  have hbx : PtC W3 pb (.slice A n c) (.pointer lp) (.pointer rp) (htT t) (cnt t) (shw t) (loT t) (hiT t) := by
    have := (PtC.new W (.slice A n c) (.pointer lp) (.pointer rp) (htT t) (cnt t) (shw t) (loT t) (hiT t) 31)
    rw [hW1, hpb] at this
    exact (this.ext x2).ext x3
  have e0 := cell_of_row W3 (pb + 1) 0 _ _ _ y3
  have e1 := cell_of_row W3 (pb + 1) 1 _ _ _ y3
  have hfv : fndV l c0 k0 = 0 ∧ fndB l c0 k0 = false := by
    unfold fndV fndB
    rw [hno]
    exact ⟨rfl, rfl⟩
  have hfi := find_ix W3 _ l c0 k0 (h'.ext hX3) (by omega)
  rw [hfv.1, hfv.2] at hfi
  replace hfi := Lib.hid hfi
  obtain ⟨p0, p1, p2, p3, p4, p5, p6, p7⟩ := hbx
  clear hfv hno
  clear hA hbox h h' hG hF0 hG0 x1 x2 x3 y0 hs1 hs2 hs3 y3
  replace hW1 := Lib.hid hW1
  replace hW2 := Lib.hid hW2
  replace hW3 := Lib.hid hW3
  replace hpb := Lib.hid hpb
  replace hrb := Lib.hid hrb
  replace hcn := Lib.hid hcn
  go_enter Try.func11, Try.ntmps11
  go_wp2_with fail
  rw [hW1.out, hpb.out, hW2.out, hW3.out, hrb.out]
  refine hfi.out.mono ?_
  rintro e w3 ⟨rfl, x4⟩
  have hXa := hX3.trans x4
  have hrz := (RowKit.Below.block x4 rb (Array.getElem?_eq_some_iff.1 hr0).1).trans hr0
  clear p0 p1 p2 p3 p4 p5 p6 p7 e0 e1
  have k0 := cell_of_row w3 rb 0 _ _ _ hrz
  have f0 := frozen_of_row w3 rb 0 _ _ hrz
  have k1 := cell_of_row w3 rb 1 _ _ _ hrz
  have f1 := frozen_of_row w3 rb 1 _ _ hrz
  have k2 := cell_of_row w3 rb 2 _ _ _ hrz
  have f2 := frozen_of_row w3 rb 2 _ _ hrz
  have k3 := cell_of_row w3 rb 3 _ _ _ hrz
  have f3 := frozen_of_row w3 rb 3 _ _ hrz
  have k4 := cell_of_row w3 rb 4 _ _ _ hrz
  have f4 := frozen_of_row w3 rb 4 _ _ hrz
  have k5 := cell_of_row w3 rb 5 _ _ _ hrz
  have f5 := frozen_of_row w3 rb 5 _ _ hrz
  have k6 := cell_of_row w3 rb 6 _ _ _ hrz
  have f6 := frozen_of_row w3 rb 6 _ _ hrz
  have k7 := cell_of_row w3 rb 7 _ _ _ hrz
  have f7 := frozen_of_row w3 rb 7 _ _ hrz
  have hz := st8_row hrz (.slice none 0 0) (.pointer none) (.pointer none) (Vi 0) (Vi 0) (Vi 0) (Vq 0) (Vq 0)
  have hx4 := Ext.st8 hXa hge (.slice none 0 0) (.pointer none) (.pointer none) (Vi 0) (Vi 0) (Vi 0) (Vq 0) (Vq 0)
  go_wp2
  have z0 := cell_of_row _ rb 0 _ _ _ hz
  have z1 := cell_of_row _ rb 1 _ _ _ hz
  have z2 := cell_of_row _ rb 2 _ _ _ hz
  have z3 := cell_of_row _ rb 3 _ _ _ hz
  have z4 := cell_of_row _ rb 4 _ _ _ hz
  have z5 := cell_of_row _ rb 5 _ _ _ hz
  have z6 := cell_of_row _ rb 6 _ _ _ hz
  have z7 := cell_of_row _ rb 7 _ _ _ hz
  exact bodyPost_ret (v := .tuple #[zeroX, errv 1]) (by simp [results, Try.results11, go_sem, errv, z0, z1, z2, z3, z4, z5, z6, z7]) rfl ⟨rfl, hx4⟩
set_option maxRecDepth 100000 in
set_option maxHeartbeats 16000000 in
theorem hide_ix {F : Nat → Prop} (W : World) (v : Value) (l : List En) (c0 k0 : Int) (q : Nat) (h : Ix F W v l) (hl : l.length ≤ 1000) (hap : apart l = true) (hq : findE l c0 k0 = some q) :
    Calls Try.prog 11 #[v, idv c0 k0] W fun e w' => ∃ F' v', e = .returned (.tuple #[v', .nilIface]) ∧ Ix F' w' v' (hideE l c0 k0) ∧ (∀ b, F' b → F b ∨ W.heap.size ≤ b) ∧ Ext W w' := by
  obtain ⟨G, hG⟩ : ∃ G : Nat → Prop, G = (fun b => F b ∨ b = W.heap.size ∨ W.heap.size + 3 ≤ b) := ⟨_, rfl⟩
  have hF0 : ∀ b, F b → G b := fun b hb => by rw [hG]; exact .inl hb
  have hG0 : G W.heap.size := by rw [hG]; exact .inr (.inl rfl)
  have h' := h
  obtain ⟨t, A, n, c, lp, rp, rfl, hE, hok, hFl, hbox⟩ := h.box
  have hcn : cnt t = l.length := by rw [← hE]; rfl
  have x1 : Ext W (W.alloc (.cells #[.slice A n c, .pointer lp, .pointer rp, Vi (htT t), Vi (cnt t), Vi (shw t), Vq (loT t), Vq (hiT t)] 31)) := (Ext.refl W).alloc _
  have hA := hbox G _ hF0 hG0 (Ext.refl _)
  obtain ⟨W1, hW1⟩ : ∃ Z, W.alloc (.cells #[.slice A n c, .pointer lp, .pointer rp, Vi (htT t), Vi (cnt t), Vi (shw t), Vq (loT t), Vq (hiT t)] 31) = Z := ⟨_, rfl⟩
  obtain ⟨pb, hpb⟩ : ∃ z, W.heap.size = z := ⟨_, rfl⟩
  have hs1 : W1.heap.size = pb + 1 := by rw [← hW1, ← hpb]; simp
  rw [hW1] at hA x1
  rw [hpb] at hA
  have x2 : Ext W1 (W1.alloc (.cells #[.int .u32 c0, .int .u32 k0] 36)) := (Ext.refl W1).alloc _
  have y0 : (W1.alloc (.cells #[.int .u32 c0, .int .u32 k0] 36)).heap[pb + 1]? = some (.cells #[.int .u32 c0, .int .u32 k0] 36 (0, 0)) := by rw [← hs1]; exact heap_alloc_new W1 _
  obtain ⟨W2, hW2⟩ : ∃ Z, W1.alloc (.cells #[.int .u32 c0, .int .u32 k0] 36) = Z := ⟨_, rfl⟩
  have hs2 : W2.heap.size = pb + 1 + 1 := by rw [← hW2, ← hs1]; simp
  rw [hW2] at x2 y0
  have x3 : Ext W2 (W2.alloc (.cells #[.slice none 0 0, .pointer none, .pointer none, Vi 0, Vi 0, Vi 0, Vq 0, Vq 0] 31)) := (Ext.refl W2).alloc _
  have hr0 : (W2.alloc (.cells #[.slice none 0 0, .pointer none, .pointer none, Vi 0, Vi 0, Vi 0, Vq 0, Vq 0] 31)).heap[pb + 2]? = some (.cells #[.slice none 0 0, .pointer none, .pointer none, Vi 0, Vi 0, Vi 0, Vq 0, Vq 0] 31 (0, 0)) := by rw [show pb + 2 = W2.heap.size by omega]; exact heap_alloc_new W2 _
  obtain ⟨W3, hW3⟩ : ∃ Z, W2.alloc (.cells #[.slice none 0 0, .pointer none, .pointer none, Vi 0, Vi 0, Vi 0, Vq 0, Vq 0] 31) = Z := ⟨_, rfl⟩
  have hs3 : W3.heap.size = pb + 3 := by rw [← hW3, show pb + 3 = W2.heap.size + 1 by omega]; simp
  rw [hW3] at x3 hr0
  have hX3 := (x1.trans x2).trans x3
  have hA := (hA.ext x2).ext x3
  have y3 := (RowKit.Below.block x3 (pb + 1) (Array.getElem?_eq_some_iff.1 y0).1).trans y0
  obtain ⟨rb, hrb⟩ : ∃ z, pb + 2 = z := ⟨_, rfl⟩
  rw [hrb] at hr0
  have hge : W.heap.size ≤ rb := by omega
  have hGn : ∀ b, G b → b ≠ rb := fun b hb e => by
    rw [hG] at hb
    rcases hb with hb | hb | hb
    · have := hFl b hb; omega
    · omega
    · omega
  have hUp : Up G W3 := fun b hb => by rw [hG]; exact .inr (.inr (by omega))
  have hFs : ∀ b, G b → F b ∨ W.heap.size ≤ b := fun b hb => by
    rw [hG] at hb
    rcases hb with hb | hb | hb
    · exact .inl hb
    · exact .inr (by omega)
    · exact .inr (by omega)
  have hbx : PtC W3 pb (.slice A n c) (.pointer lp) (.pointer rp) (htT t) (cnt t) (shw t) (loT t) (hiT t) := by
    have := (PtC.new W (.slice A n c) (.pointer lp) (.pointer rp) (htT t) (cnt t) (shw t) (loT t) (hiT t) 31)
    rw [hW1, hpb] at this
    exact (this.ext x2).ext x3
  have e0 := cell_of_row W3 (pb + 1) 0 _ _ _ y3
  have e1 := cell_of_row W3 (pb + 1) 1 _ _ _ y3
  have hql := find_lt hq
  have hfv : fndV l c0 k0 = (q : Int) ∧ fndB l c0 k0 = true := by
    unfold fndV fndB
    rw [hq]
    exact ⟨rfl, rfl⟩
  have hfi := find_ix W3 _ l c0 k0 (h'.ext hX3) (by omega)
  rw [hfv.1, hfv.2] at hfi
  replace hfi := Lib.hid hfi
  have hhd := Lib.hid (fun Z (hx : Ext W3 Z) => hide_any t pb q Z (hA.ext hx) (hUp.ext hx) hok (by omega) (by omega))
  have hent3 : ents (hideTr t q) = hideE l c0 k0 := by
    obtain ⟨y, hy, _⟩ := find_some hq
    rw [hideTr_ents, hE, gone_set hy, hide_set hap hq hy]
  have hok3 : hideTr t q = .leaf [] ∨ okT (hideTr t q) := by
    rcases hok with h0 | h0
    · subst h0
      have : cnt (.leaf []) = 0 := rfl
      omega
    · exact .inr (hideTr_ok t q h0)
  obtain ⟨p0, p1, p2, p3, p4, p5, p6, p7⟩ := hbx
  clear hfv hap hq
  clear hA hbox h h' hG hF0 hG0 x1 x2 x3 y0 hs1 hs2 hs3 y3
  replace hW1 := Lib.hid hW1
  replace hW2 := Lib.hid hW2
  replace hW3 := Lib.hid hW3
  replace hpb := Lib.hid hpb
  replace hrb := Lib.hid hrb
  replace hcn := Lib.hid hcn
  go_enter Try.func11, Try.ntmps11
  go_wp2_with fail
  rw [hW1.out, hpb.out, hW2.out, hW3.out, hrb.out]
  refine hfi.out.mono ?_
  rintro e w4 ⟨rfl, x4⟩
  clear p0 p1 p2 p3 p4 p5 p6 p7 e0 e1
  go_wp2_with fail
  refine (hhd.out _ x4).mono ?_
  rintro e w3 ⟨v3, rfl, ⟨q3, rfl, hA3⟩, x5⟩
  have hXa := (hX3.trans x4).trans x5
  have hrz := (RowKit.Below.block (x4.trans x5) rb (Array.getElem?_eq_some_iff.1 hr0).1).trans hr0
  have hFn : ∀ b, (G b ∧ b < w3.heap.size) → F b ∨ W.heap.size ≤ b := fun b hb => hFs b hb.1
  obtain ⟨T9, hT9⟩ : ∃ z, hideTr t q = z := ⟨_, rfl⟩
  rw [hT9] at hA3 hent3 hok3
  clear hT9
  obtain ⟨A3, n3, c3, l3, r3, ⟨d0, d1, d2, d3, d4, d5, d6, d7⟩, hv3⟩ := hA3.form
  have k0 := cell_of_row w3 rb 0 _ _ _ hrz
  have f0 := frozen_of_row w3 rb 0 _ _ hrz
  have k1 := cell_of_row w3 rb 1 _ _ _ hrz
  have f1 := frozen_of_row w3 rb 1 _ _ hrz
  have k2 := cell_of_row w3 rb 2 _ _ _ hrz
  have f2 := frozen_of_row w3 rb 2 _ _ hrz
  have k3 := cell_of_row w3 rb 3 _ _ _ hrz
  have f3 := frozen_of_row w3 rb 3 _ _ hrz
  have k4 := cell_of_row w3 rb 4 _ _ _ hrz
  have f4 := frozen_of_row w3 rb 4 _ _ hrz
  have k5 := cell_of_row w3 rb 5 _ _ _ hrz
  have f5 := frozen_of_row w3 rb 5 _ _ hrz
  have k6 := cell_of_row w3 rb 6 _ _ _ hrz
  have f6 := frozen_of_row w3 rb 6 _ _ hrz
  have k7 := cell_of_row w3 rb 7 _ _ _ hrz
  have f7 := frozen_of_row w3 rb 7 _ _ hrz
  have hz := st8_row hrz (.slice A3 n3 c3) (.pointer l3) (.pointer r3) (Vi (htT T9)) (Vi (cnt T9)) (Vi (shw T9)) (Vq (loT T9)) (Vq (hiT T9))
  have hx4 := Ext.st8 hXa hge (.slice A3 n3 c3) (.pointer l3) (.pointer r3) (Vi (htT T9)) (Vi (cnt T9)) (Vi (shw T9)) (Vq (loT T9)) (Vq (hiT T9))
  have hfr := fun (q : Nat) (hq : q ≠ rb) => st8_other (w := w3) hq (.slice A3 n3 c3) (.pointer l3) (.pointer r3) (Vi (htT T9)) (Vi (cnt T9)) (Vi (shw T9)) (Vq (loT T9)) (Vq (hiT T9))
  have hsz4 := st8_size (w := w3) (b := rb) (.slice A3 n3 c3) (.pointer l3) (.pointer r3) (Vi (htT T9)) (Vi (cnt T9)) (Vi (shw T9)) (Vq (loT T9)) (Vq (hiT T9))
  have hix := Lib.hid (ix_of hv3 hent3 hok3 (fun b hb => hfr b (hGn b hb)) (Nat.le_of_eq hsz4.symm))
  clear hfr hv3
  go_wp2
  have z0 := cell_of_row _ rb 0 _ _ _ hz
  have z1 := cell_of_row _ rb 1 _ _ _ hz
  have z2 := cell_of_row _ rb 2 _ _ _ hz
  have z3 := cell_of_row _ rb 3 _ _ _ hz
  have z4 := cell_of_row _ rb 4 _ _ _ hz
  have z5 := cell_of_row _ rb 5 _ _ _ hz
  have z6 := cell_of_row _ rb 6 _ _ _ hz
  have z7 := cell_of_row _ rb 7 _ _ _ hz
  exact bodyPost_ret (v := .tuple #[.agg #[.slice A3 n3 c3, .pointer l3, .pointer r3, Vi (htT T9), Vi (cnt T9), Vi (shw T9), Vq (loT T9), Vq (hiT T9)], .nilIface]) (by simp [results, Try.results11, go_sem, z0, z1, z2, z3, z4, z5, z6, z7]) rfl ⟨_, _, rfl, hix.out, hFn, hx4⟩
set_option maxRecDepth 100000 in
set_option maxHeartbeats 16000000 in
theorem putRange_ix {F : Nat → Prop} (W : World) (v : Value) (l : List En) (z : Int) (x : En) (h : Ix F W v l) (hl : l.length ≤ 1000) (hz : -2 ≤ z ∧ z ≤ 2000) (ho : z < 0 ∨ (l.length : Int) < z) :
    Calls Try.prog 12 #[v, Vi z, env x] W fun e w' => e = .returned (.tuple #[zeroX, errv 3]) ∧ Ext W w' := by
  obtain ⟨t, A, n, c, lp, rp, rfl, hE, hok, hFl, hbox⟩ := h.box
  have hcn : cnt t = l.length := by rw [← hE]; rfl
  have hA := hbox (Gb F W) _ (fun b hb => .inl hb) (.inr (Nat.le_refl _)) (Ext.refl _)
  have a4 : (W.alloc (.cells #[.slice A n c, .pointer lp, .pointer rp, Vi (htT t), Vi (cnt t), Vi (shw t), Vq (loT t), Vq (hiT t)] 31)).cell? ⟨W.heap.size, 4, none⟩ = some (Vi (cnt t)) := by obtain ⟨_, _, _, _, z, _⟩ := hA; exact z.c4
  have hX : Ext W (((W.alloc (.cells #[.slice A n c, .pointer lp, .pointer rp, Vi (htT t), Vi (cnt t), Vi (shw t), Vq (loT t), Vq (hiT t)] 31)).alloc (.cells #[.int .u32 x.c, .int .u32 x.k, .int .i32 x.ch, .bool x.g] 38)).alloc (.cells #[.slice none 0 0, .pointer none, .pointer none, Vi 0, Vi 0, Vi 0, Vq 0, Vq 0] 31)) := (((Ext.refl W).alloc _).alloc _).alloc _
  have g : (decide (z < 0) = true) ∨ (decide (z < 0) = false ∧ decide ((cnt t : Int) < z) = true) := by
    by_cases h2 : z < 0
    · exact .inl (decide_eq_true h2)
    · exact .inr ⟨decide_eq_false h2, decide_eq_true (by omega)⟩
  replace hcn := Lib.hid hcn
  clear hA hbox h
  rcases g with g1 | ⟨g1, g2⟩
  · clear ho
    go_enter Try.func12, Try.ntmps12
    go_wp2
    exact bodyPost_ret (v := .tuple #[zeroX, errv 3]) (by simp [results, Try.results12, go_sem, errv]) rfl ⟨rfl, hX⟩
  · clear ho
    go_enter Try.func12, Try.ntmps12
    go_wp2
    exact bodyPost_ret (v := .tuple #[zeroX, errv 3]) (by simp [results, Try.results12, go_sem, errv]) rfl ⟨rfl, hX⟩

theorem fnd_some {l : List En} {c k : Int} {q : Nat} (h : findE l c k = some q) : fndV l c k = (q : Int) ∧ fndB l c k = true := by
  unfold fndV fndB; rw [h]; exact ⟨rfl, rfl⟩
theorem fnd_none {l : List En} {c k : Int} (h : findE l c k = none) : fndV l c k = 0 ∧ fndB l c k = false := by
  unfold fndV fndB; rw [h]; exact ⟨rfl, rfl⟩
theorem ix_r (F : Nat → Prop) : IxR (Ix F) where
  ext h hx := h.ext hx
  all W v l h hl := all_ix W v l h hl
  len W v l h hl := len_ix W v l h hl
  shown W v l h hl := shown_ix W v l h hl
  entry W v l q x h hl hq := entry_ix W v l q x h hl hq
  entryNo W v l z h hl hz ho := entryNo_ix W v l z h hl hz ho
  at' W v l q p h hl hq := at_ix W v l q p h hl hq
  atNo W v l z h hl hz ho := atNo_ix W v l z h hl hz ho
  find W v l c k q h hl hq := by have := find_ix W v l c k h hl; rwa [(fnd_some hq).1, (fnd_some hq).2] at this
  findNo W v l c k h hl hq := by have := find_ix W v l c k h hl; rwa [(fnd_none hq).1, (fnd_none hq).2] at this
/-- the landed index's calls keep all that is asked of them -/
theorem ix_w : IxW Ix where
  r F := ix_r F
  frame := by
    rintro F W W' v l ⟨t, x, h1, h2, h3, h4, h5, h6, h7, h8, h9, h10⟩ hf
    refine ⟨t, x, h1, h2, h3, h4, h5, h6, h7, h8, h9.frame hf, fun b hb => ?_⟩
    have hb2 := h10 b hb
    have := hf b hb
    rw [Array.getElem?_eq_getElem hb2] at this
    exact (Array.getElem?_eq_some_iff.1 this).1
  lt := by
    rintro F W v l b ⟨t, x, h1, h2, h3, h4, h5, h6, h7, h8, h9, h10⟩ hb
    exact h10 b hb
  shape := by
    rintro F W v l ⟨t, x, h1, _⟩
    exact ⟨x, h1⟩
  zero W := ⟨.leaf [], zX, rfl, rfl, .inl rfl, rfl, rfl, rfl, rfl, rfl, ⟨rfl, rfl, none, 0, rfl, Nat.le_refl _, EnS.nil _ _, fun h => absurd h (by simp)⟩, fun b hb => hb.elim⟩
  of W A n c l hv hn hc hb _ _ := of_ix W A n c l hv hn hc hb
  put F W v l p x h hl _ _ _ hp hno := put_ix W v l p x h hl hp hno
  putRange F W v l z x h hl hz ho := putRange_ix W v l z x h hl hz ho
  putArg F W v l p x h hl hp hyes := putArg_ix W v l p x h hl hp hyes
  hide F W v l c k q h hl ha _ hq := hide_ix W v l c k q h hl ha hq
  hideNo F W v l c k h hl hq := hideNo_ix W v l c k h hl hq

end Go.Proofs.Ytanknhalgoheeaa
