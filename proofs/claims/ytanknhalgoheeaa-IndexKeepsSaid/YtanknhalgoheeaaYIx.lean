/-
  An index's reading calls keep what is asked of them; no claim stands here.
-/
import Derived.Test.YtanknhalgoheeaaXUp
import Derived.Test.YtanknhalgoheeaaYAdd
import Derived.Test.YtanknhalgoheeaaYPart
namespace Go.Proofs.Ytanknhalgoheeaa
open Go.ChangeShapes Go.WideShapes Go.ChangeAt Go.RowKit Go.Sort
set_option linter.unusedVariables false
attribute [local go_sem] World.cell?_alloc_some

/-- this value is an index with these entries -/
def Ix (F : Nat → Prop) (W : World) (v : Value) (l : List En) : Prop :=
  ∃ (t : Tr) (x : Xv), v = ixv x ∧ ents t = l ∧ (t = .leaf [] ∨ okT t) ∧ x.h = htT t ∧ x.m = cnt t ∧ x.s = shw t ∧ x.lo = loT t ∧ x.hi = hiT t ∧ PV F W t (.slice x.A x.n x.c) (.pointer x.l) (.pointer x.r) ∧ (∀ b, F b → b < W.heap.size)
theorem Ix.ext {F : Nat → Prop} {W W' : World} {v : Value} {l : List En} (h : Ix F W v l) (hx : Ext W W') : Ix F W' v l := by
  obtain ⟨t, x, h1, h2, h3, h4, h5, h6, h7, h8, h9, h10⟩ := h
  exact ⟨t, x, h1, h2, h3, h4, h5, h6, h7, h8, h9.ext hx, fun b hb => hx.lt (h10 b hb)⟩
abbrev Gb (F : Nat → Prop) (W : World) (b : Nat) : Prop := F b ∨ W.heap.size ≤ b
/-- boxed, it is a part -/
theorem Ix.box {F : Nat → Prop} {W : World} {v : Value} {l : List En} (h : Ix F W v l) : ∃ (t : Tr) (A : Option Addr) (n c : Nat) (lp rp : Option Addr), v = .agg #[.slice A n c, .pointer lp, .pointer rp, Vi (htT t), Vi (cnt t), Vi (shw t), Vq (loT t), Vq (hiT t)] ∧ ents t = l ∧ (t = .leaf [] ∨ okT t) ∧
    (∀ b, F b → b < W.heap.size) ∧ ∀ (G : Nat → Prop) W', (∀ b, F b → G b) → G W.heap.size → Ext (W.alloc (.cells #[.slice A n c, .pointer lp, .pointer rp, Vi (htT t), Vi (cnt t), Vi (shw t), Vq (loT t), Vq (hiT t)] 31)) W' → AtP G W' W.heap.size t := by
  obtain ⟨t, ⟨A, n, c, lp, rp, h0, m0, s0, lo0, hi0⟩, h1, h2, h3, h4, h5, h6, h7, h8, h9, h10⟩ := h
  simp only at h4 h5 h6 h7 h8 h9
  subst h4
  subst h5
  subst h6
  subst h7
  subst h8
  refine ⟨t, A, n, c, lp, rp, h1, h2, h3, h10, fun G W' hf hg hx => ?_⟩
  exact ⟨hg, _, _, _, (PtC.new W _ _ _ _ _ _ _ _ 31).ext hx, ((h9.ext (((Ext.refl W).alloc _).trans hx))).mono hf⟩

theorem roomE_run (c : Int) (W : World) (h0 : 0 ≤ c) (h1 : c ≤ 100000) : (Instr.makeSlice 22 (.int .i64 0) (.int .i64 c)).run Try.prog W = .ok (.slice (some ⟨W.heap.size, 0, none⟩) 0 c.toNat) (W.alloc (.cells (roomC (.agg #[.int .u32 0, .int .u32 0, .int .i32 0, .bool false]) (c.toNat * 4)) 38)) := by
  obtain ⟨i, hi, hz0, hz1, hz2⟩ := info_parts infoE
  exact run_room Try.underlying22 hi hz0 hz1 hz2 c W h0 (by omega) (by omega)
theorem OwnE.room {w W : World} (c : Nat) (hc : c ≤ 100000) (hx : Ext w W) : OwnE w (W.alloc (.cells (roomC (.agg #[.int .u32 0, .int .u32 0, .int .i32 0, .bool false]) (c * 4)) 38)) (.slice (some ⟨W.heap.size, 0, none⟩) 0 c) [] :=
  ⟨by simp [flat], .inr ⟨W.heap.size, c, _, rfl, hx.size, heap_alloc_new W _, Nat.zero_le _, by unfold maxLen; omega, roomC_size _ _, by simp [flat]⟩⟩

/-- four cells are stored -/
theorem st4_row {w : World} {b : Nat} {a0 a1 a2 a3 : Value} {T : TypeId} (h : w.heap[b]? = some (.cells #[a0, a1, a2, a3] T (0, 0))) (v0 v1 v2 v3 : Value) :
    ((((w.setCell ⟨b, 0, none⟩ v0).setCell ⟨b, 1, none⟩ v1).setCell ⟨b, 2, none⟩ v2).setCell ⟨b, 3, none⟩ v3).heap[b]? = some (.cells #[v0, v1, v2, v3] T (0, 0)) :=
  heap_setCell_same _ _ 3 _ _ _ (heap_setCell_same _ _ 2 _ _ _ (heap_setCell_same _ _ 1 _ _ _ (heap_setCell_same _ _ 0 _ _ _ h)))
theorem Ext.st4 {w0 w : World} {b : Nat} (h : Ext w0 w) (hb : w0.heap.size ≤ b) (v0 v1 v2 v3 : Value) :
    Ext w0 ((((w.setCell ⟨b, 0, none⟩ v0).setCell ⟨b, 1, none⟩ v1).setCell ⟨b, 2, none⟩ v2).setCell ⟨b, 3, none⟩ v3) :=
  (((h.setCell (p := ⟨b, 0, none⟩) hb v0).setCell (p := ⟨b, 1, none⟩) hb v1).setCell (p := ⟨b, 2, none⟩) hb v2).setCell (p := ⟨b, 3, none⟩) hb v3

set_option maxRecDepth 100000 in
set_option maxHeartbeats 8000000 in
theorem all_ix {F : Nat → Prop} (W : World) (v : Value) (l : List En) (h : Ix F W v l) (hl : l.length ≤ 1000) : Calls Try.prog 22 #[v] W fun e w' => ∃ A c, e = .returned (.slice A l.length c) ∧ EnS w' A l ∧ Ext W w' := by
  obtain ⟨t, A, n, c, lp, rp, rfl, hE, hok, hFl, hbox⟩ := h.box
  have hcn : cnt t = l.length := by rw [← hE]; rfl
  have hsn : shw t = (shownE l).length := by rw [← hE]; rfl
  have hb5 : cnt t ≤ 100000 := by omega
  have hX : Ext W (W.alloc (.cells #[.slice A n c, .pointer lp, .pointer rp, Vi (htT t), Vi (cnt t), Vi (shw t), Vq (loT t), Vq (hiT t)] 31)) := (Ext.refl W).alloc _
  have hA := hbox (Gb F W) _ (fun b hb => .inl hb) (.inr (Nat.le_refl _)) (Ext.refl _)
  obtain ⟨W1, hW1⟩ : ∃ Z, W.alloc (.cells #[.slice A n c, .pointer lp, .pointer rp, Vi (htT t), Vi (cnt t), Vi (shw t), Vq (loT t), Vq (hiT t)] 31) = Z := ⟨_, rfl⟩
  obtain ⟨pb, hpb⟩ : ∃ z, W.heap.size = z := ⟨_, rfl⟩
  have hsz : W1.heap.size = pb + 1 := by rw [← hW1, ← hpb]; simp
  rw [hW1] at hA hX
  rw [hpb] at hA
  clear hbox h
  have hrun := fun W => roomE_run (cnt t : Int) W (by omega) (by omega)
  have a4 : W1.cell? ⟨pb, 4, none⟩ = some (Vi (cnt t)) := by obtain ⟨_, _, _, _, z, _⟩ := hA; exact z.c4
  rw [← hW1, ← hpb] at a4
  have hadd := addTo_any t pb (W1.alloc (.cells (roomC (.agg #[.int .u32 0, .int .u32 0, .int .i32 0, .bool false]) (cnt t * 4)) 38)) _ [] hA ((Ext.refl W1).alloc _) (OwnE.room (cnt t) hb5 (Ext.refl W1)) (by simpa using hb5)
  rw [hsz] at hadd
  replace hadd := Lib.hid hadd
  clear hA
  replace hW1 := Lib.hid hW1
  replace hpb := Lib.hid hpb
  replace hcn := Lib.hid hcn
  replace hsn := Lib.hid hsn
  go_enter Try.func22, Try.ntmps22
  go_wp2_with fail
  rw [hW1.out, hpb.out]
  refine hadd.out.mono ?_
  rintro e w3 ⟨v3, rfl, o3, x3⟩
  obtain ⟨A3, c3, rfl, hc3, hE3⟩ := OwnE.open o3
  rw [List.nil_append, hE] at hE3
  have e3 : ([] ++ ents t).length = l.length := by rw [List.nil_append, hE]
  rw [e3]
  go_wp2
  go_ret
  exact ⟨A3, c3, rfl, hE3, hX.trans x3⟩
set_option maxRecDepth 100000 in
set_option maxHeartbeats 8000000 in
theorem len_ix {F : Nat → Prop} (W : World) (v : Value) (l : List En) (h : Ix F W v l) (hl : l.length ≤ 1000) : Calls Try.prog 14 #[v] W fun e w' => e = .returned (Vi (l.length : Int)) ∧ Ext W w' := by
  obtain ⟨t, A, n, c, lp, rp, rfl, hE, hok, hFl, hbox⟩ := h.box
  have hcn : cnt t = l.length := by rw [← hE]; rfl
  have hsn : shw t = (shownE l).length := by rw [← hE]; rfl
  have hb5 : cnt t ≤ 100000 := by omega
  have hX : Ext W (W.alloc (.cells #[.slice A n c, .pointer lp, .pointer rp, Vi (htT t), Vi (cnt t), Vi (shw t), Vq (loT t), Vq (hiT t)] 31)) := (Ext.refl W).alloc _
  have hA := hbox (Gb F W) _ (fun b hb => .inl hb) (.inr (Nat.le_refl _)) (Ext.refl _)
  obtain ⟨W1, hW1⟩ : ∃ Z, W.alloc (.cells #[.slice A n c, .pointer lp, .pointer rp, Vi (htT t), Vi (cnt t), Vi (shw t), Vq (loT t), Vq (hiT t)] 31) = Z := ⟨_, rfl⟩
  obtain ⟨pb, hpb⟩ : ∃ z, W.heap.size = z := ⟨_, rfl⟩
  have hsz : W1.heap.size = pb + 1 := by rw [← hW1, ← hpb]; simp
  rw [hW1] at hA hX
  rw [hpb] at hA
  clear hbox h
  have a4 : W1.cell? ⟨pb, 4, none⟩ = some (Vi (cnt t)) := by obtain ⟨_, _, _, _, z, _⟩ := hA; exact z.c4
  rw [← hW1, ← hpb] at a4
  clear hW1 hX hA
  replace hcn := Lib.hid hcn
  replace hsn := Lib.hid hsn
  go_enter Try.func14, Try.ntmps14
  go_wp2
  go_ret
  exact ⟨ret_i64 (by have := hcn.out; have := hsn.out; omega), (Ext.refl W).alloc _⟩
set_option maxRecDepth 100000 in
set_option maxHeartbeats 8000000 in
theorem shown_ix {F : Nat → Prop} (W : World) (v : Value) (l : List En) (h : Ix F W v l) (hl : l.length ≤ 1000) : Calls Try.prog 17 #[v] W fun e w' => e = .returned (Vi ((shownE l).length : Int)) ∧ Ext W w' := by
  obtain ⟨t, A, n, c, lp, rp, rfl, hE, hok, hFl, hbox⟩ := h.box
  have hcn : cnt t = l.length := by rw [← hE]; rfl
  have hsn : shw t = (shownE l).length := by rw [← hE]; rfl
  have hb5 : cnt t ≤ 100000 := by omega
  have hX : Ext W (W.alloc (.cells #[.slice A n c, .pointer lp, .pointer rp, Vi (htT t), Vi (cnt t), Vi (shw t), Vq (loT t), Vq (hiT t)] 31)) := (Ext.refl W).alloc _
  have hA := hbox (Gb F W) _ (fun b hb => .inl hb) (.inr (Nat.le_refl _)) (Ext.refl _)
  obtain ⟨W1, hW1⟩ : ∃ Z, W.alloc (.cells #[.slice A n c, .pointer lp, .pointer rp, Vi (htT t), Vi (cnt t), Vi (shw t), Vq (loT t), Vq (hiT t)] 31) = Z := ⟨_, rfl⟩
  obtain ⟨pb, hpb⟩ : ∃ z, W.heap.size = z := ⟨_, rfl⟩
  have hsz : W1.heap.size = pb + 1 := by rw [← hW1, ← hpb]; simp
  rw [hW1] at hA hX
  rw [hpb] at hA
  clear hbox h
  have a5 : W1.cell? ⟨pb, 5, none⟩ = some (Vi (shw t)) := by obtain ⟨_, _, _, _, z, _⟩ := hA; exact z.c5
  rw [← hW1, ← hpb] at a5
  clear hW1 hX hA
  replace hcn := Lib.hid hcn
  replace hsn := Lib.hid hsn
  go_enter Try.func17, Try.ntmps17
  go_wp2
  go_ret
  exact ⟨ret_i64 (by have := hcn.out; have := hsn.out; omega), (Ext.refl W).alloc _⟩
set_option maxRecDepth 100000 in
set_option maxHeartbeats 8000000 in
theorem entry_ix {F : Nat → Prop} (W : World) (v : Value) (l : List En) (q : Nat) (x : En) (h : Ix F W v l) (hl : l.length ≤ 1000) (hq : l[q]? = some x) : Calls Try.prog 16 #[v, Vi (q : Int)] W fun e w' => e = .returned (.tuple #[env x, .nilIface]) ∧ Ext W w' := by
  obtain ⟨t, A, n, c, lp, rp, rfl, hE, hok, hFl, hbox⟩ := h.box
  have hcn : cnt t = l.length := by rw [← hE]; rfl
  have hsn : shw t = (shownE l).length := by rw [← hE]; rfl
  have hb5 : cnt t ≤ 100000 := by omega
  have hX : Ext W (W.alloc (.cells #[.slice A n c, .pointer lp, .pointer rp, Vi (htT t), Vi (cnt t), Vi (shw t), Vq (loT t), Vq (hiT t)] 31)) := (Ext.refl W).alloc _
  have hA := hbox (Gb F W) _ (fun b hb => .inl hb) (.inr (Nat.le_refl _)) (Ext.refl _)
  obtain ⟨W1, hW1⟩ : ∃ Z, W.alloc (.cells #[.slice A n c, .pointer lp, .pointer rp, Vi (htT t), Vi (cnt t), Vi (shw t), Vq (loT t), Vq (hiT t)] 31) = Z := ⟨_, rfl⟩
  obtain ⟨pb, hpb⟩ : ∃ z, W.heap.size = z := ⟨_, rfl⟩
  have hsz : W1.heap.size = pb + 1 := by rw [← hW1, ← hpb]; simp
  rw [hW1] at hA hX
  rw [hpb] at hA
  clear hbox h
  have hlt : q < l.length := (List.getElem?_eq_some_iff.1 hq).1
  have g1 : decide ((q : Int) < 0) = false := by rw [decide_eq_false_iff_not]; omega
  have g2 : decide ((cnt t : Int) ≤ (q : Int)) = false := by rw [decide_eq_false_iff_not]; omega
  have g3 : decide (cnt t ≤ q) = false := by rw [decide_eq_false_iff_not]; omega
  have a4 : W1.cell? ⟨pb, 4, none⟩ = some (Vi (cnt t)) := by obtain ⟨_, _, _, _, z, _⟩ := hA; exact z.c4
  rw [← hW1, ← hpb] at a4
  have x2 : Ext W1 (W1.alloc (.cells #[.int .u32 0, .int .u32 0, .int .i32 0, .bool false] 38)) := (Ext.refl W1).alloc _
  have hr2 : (W1.alloc (.cells #[.int .u32 0, .int .u32 0, .int .i32 0, .bool false] 38)).heap[pb + 1]? = some (.cells #[.int .u32 0, .int .u32 0, .int .i32 0, .bool false] 38 (0, 0)) := by rw [← hsz]; exact heap_alloc_new W1 _
  obtain ⟨W2, hW2⟩ : ∃ Z, W1.alloc (.cells #[.int .u32 0, .int .u32 0, .int .i32 0, .bool false] 38) = Z := ⟨_, rfl⟩
  rw [hW2] at hr2 x2
  have hent := Lib.hid (entry_any t pb W2 q x (hA.ext x2) hb5 (by rw [hE]; exact hq))
  clear hA
  replace hW2 := Lib.hid hW2
  replace hW1 := Lib.hid hW1
  replace hpb := Lib.hid hpb
  replace hcn := Lib.hid hcn
  replace hsn := Lib.hid hsn
  go_enter Try.func16, Try.ntmps16
  go_wp2_with fail
  rw [hW1.out, hW2.out, hpb.out]
  refine hent.out.mono ?_
  rintro e w3 ⟨rfl, x3⟩
  have hr3 := (RowKit.Below.block x3 (pb + 1) (Array.getElem?_eq_some_iff.1 hr2).1).trans hr2
  have k0 := cell_of_row w3 (pb + 1) 0 _ _ _ hr3
  have k1 := cell_of_row w3 (pb + 1) 1 _ _ _ hr3
  have k2 := cell_of_row w3 (pb + 1) 2 _ _ _ hr3
  have k3 := cell_of_row w3 (pb + 1) 3 _ _ _ hr3
  have f0 := frozen_of_row w3 (pb + 1) 0 _ _ hr3
  have f1 := frozen_of_row w3 (pb + 1) 1 _ _ hr3
  have f2 := frozen_of_row w3 (pb + 1) 2 _ _ hr3
  have f3 := frozen_of_row w3 (pb + 1) 3 _ _ hr3
  have hX3 := (hX.trans x2).trans x3
  have hge : W.heap.size ≤ pb + 1 := by rw [hpb.out]; omega
  have hx4 := Ext.st4 hX3 hge (.int .u32 x.c) (.int .u32 x.k) (.int .i32 x.ch) (.bool x.g)
  have hz := st4_row hr3 (.int .u32 x.c) (.int .u32 x.k) (.int .i32 x.ch) (.bool x.g)
  go_wp2
  have z0 := cell_of_row _ (pb + 1) 0 _ _ _ hz
  have z1 := cell_of_row _ (pb + 1) 1 _ _ _ hz
  have z2 := cell_of_row _ (pb + 1) 2 _ _ _ hz
  have z3 := cell_of_row _ (pb + 1) 3 _ _ _ hz
  exact bodyPost_ret (v := .tuple #[env x, .nilIface]) (by simp [results, Try.results16, go_sem, z0, z1, z2, z3]) rfl ⟨rfl, hx4⟩
set_option maxRecDepth 100000 in
set_option maxHeartbeats 8000000 in
theorem entryNo_ix {F : Nat → Prop} (W : World) (v : Value) (l : List En) (z : Int) (h : Ix F W v l) (hl : l.length ≤ 1000) (hz : -2 ≤ z ∧ z ≤ 2000) (ho : z < 0 ∨ (l.length : Int) ≤ z) : Calls Try.prog 16 #[v, Vi z] W fun e w' => e = .returned (.tuple #[env zE, errv 3]) ∧ Ext W w' := by
  obtain ⟨t, A, n, c, lp, rp, rfl, hE, hok, hFl, hbox⟩ := h.box
  have hcn : cnt t = l.length := by rw [← hE]; rfl
  have hsn : shw t = (shownE l).length := by rw [← hE]; rfl
  have hb5 : cnt t ≤ 100000 := by omega
  have hX : Ext W (W.alloc (.cells #[.slice A n c, .pointer lp, .pointer rp, Vi (htT t), Vi (cnt t), Vi (shw t), Vq (loT t), Vq (hiT t)] 31)) := (Ext.refl W).alloc _
  have hA := hbox (Gb F W) _ (fun b hb => .inl hb) (.inr (Nat.le_refl _)) (Ext.refl _)
  obtain ⟨W1, hW1⟩ : ∃ Z, W.alloc (.cells #[.slice A n c, .pointer lp, .pointer rp, Vi (htT t), Vi (cnt t), Vi (shw t), Vq (loT t), Vq (hiT t)] 31) = Z := ⟨_, rfl⟩
  obtain ⟨pb, hpb⟩ : ∃ z, W.heap.size = z := ⟨_, rfl⟩
  have hsz : W1.heap.size = pb + 1 := by rw [← hW1, ← hpb]; simp
  rw [hW1] at hA hX
  rw [hpb] at hA
  clear hbox h
  have a4 : W1.cell? ⟨pb, 4, none⟩ = some (Vi (cnt t)) := by obtain ⟨_, _, _, _, z, _⟩ := hA; exact z.c4
  rw [← hW1, ← hpb] at a4
  have x2 : Ext W1 (W1.alloc (.cells #[.int .u32 0, .int .u32 0, .int .i32 0, .bool false] 38)) := (Ext.refl W1).alloc _
  have hX2 := hX.trans x2
  rw [← hW1] at hX2
  have g : (decide (z < 0) = true) ∨ (decide (z < 0) = false ∧ decide ((cnt t : Int) ≤ z) = true) := by
    by_cases h2 : z < 0
    · exact .inl (decide_eq_true h2)
    · exact .inr ⟨decide_eq_false h2, decide_eq_true (by omega)⟩
  clear hA hX hW1 hsz x2 hpb
  rcases g with g1 | ⟨g1, g2⟩
  · clear ho
    replace hcn := Lib.hid hcn
    replace hsn := Lib.hid hsn
    go_enter Try.func16, Try.ntmps16
    go_wp2
    exact bodyPost_ret (v := .tuple #[env zE, errv 3]) (by simp [results, Try.results16, go_sem, errv]) rfl ⟨rfl, hX2⟩
  · clear ho
    replace hcn := Lib.hid hcn
    replace hsn := Lib.hid hsn
    go_enter Try.func16, Try.ntmps16
    go_wp2
    exact bodyPost_ret (v := .tuple #[env zE, errv 3]) (by simp [results, Try.results16, go_sem, errv]) rfl ⟨rfl, hX2⟩
set_option maxRecDepth 100000 in
set_option maxHeartbeats 8000000 in
theorem at_ix {F : Nat → Prop} (W : World) (v : Value) (l : List En) (q p : Nat) (h : Ix F W v l) (hl : l.length ≤ 1000) (hq : (shownE l)[q]? = some p) : Calls Try.prog 18 #[v, Vi (q : Int)] W fun e w' => e = .returned (.tuple #[Vi (p : Int), .nilIface]) ∧ Ext W w' := by
  obtain ⟨t, A, n, c, lp, rp, rfl, hE, hok, hFl, hbox⟩ := h.box
  have hcn : cnt t = l.length := by rw [← hE]; rfl
  have hsn : shw t = (shownE l).length := by rw [← hE]; rfl
  have hb5 : cnt t ≤ 100000 := by omega
  have hX : Ext W (W.alloc (.cells #[.slice A n c, .pointer lp, .pointer rp, Vi (htT t), Vi (cnt t), Vi (shw t), Vq (loT t), Vq (hiT t)] 31)) := (Ext.refl W).alloc _
  have hA := hbox (Gb F W) _ (fun b hb => .inl hb) (.inr (Nat.le_refl _)) (Ext.refl _)
  obtain ⟨W1, hW1⟩ : ∃ Z, W.alloc (.cells #[.slice A n c, .pointer lp, .pointer rp, Vi (htT t), Vi (cnt t), Vi (shw t), Vq (loT t), Vq (hiT t)] 31) = Z := ⟨_, rfl⟩
  obtain ⟨pb, hpb⟩ : ∃ z, W.heap.size = z := ⟨_, rfl⟩
  have hsz : W1.heap.size = pb + 1 := by rw [← hW1, ← hpb]; simp
  rw [hW1] at hA hX
  rw [hpb] at hA
  clear hbox h
  have hlt : q < (shownE l).length := (List.getElem?_eq_some_iff.1 hq).1
  have hsl := shown_len l 0
  have hss : (shownE l).length = (shownG 0 l).length := rfl
  have g1 : decide ((q : Int) < 0) = false := by rw [decide_eq_false_iff_not]; omega
  have g2 : decide ((shw t : Int) ≤ (q : Int)) = false := by rw [decide_eq_false_iff_not]; omega
  have g3 : decide (shw t ≤ q) = false := by rw [decide_eq_false_iff_not]; omega
  have a5 : W1.cell? ⟨pb, 5, none⟩ = some (Vi (shw t)) := by obtain ⟨_, _, _, _, z, _⟩ := hA; exact z.c5
  rw [← hW1, ← hpb] at a5
  have hat := Lib.hid (at_any t pb W1 q p hA hb5 (by rw [hE]; exact hq))
  clear hA hss hsl
  replace hW1 := Lib.hid hW1
  replace hpb := Lib.hid hpb
  replace hcn := Lib.hid hcn
  replace hsn := Lib.hid hsn
  go_enter Try.func18, Try.ntmps18
  go_wp2_with fail
  rw [hW1.out, hpb.out]
  refine hat.out.mono ?_
  rintro e w3 ⟨rfl, x3⟩
  go_wp2
  exact bodyPost_ret (v := .tuple #[Vi p, .nilIface]) (by simp [results, Try.results18, go_sem]) rfl ⟨rfl, hX.trans x3⟩
set_option maxRecDepth 100000 in
set_option maxHeartbeats 8000000 in
theorem atNo_ix {F : Nat → Prop} (W : World) (v : Value) (l : List En) (z : Int) (h : Ix F W v l) (hl : l.length ≤ 1000) (hz : -2 ≤ z ∧ z ≤ 2000) (ho : z < 0 ∨ ((shownE l).length : Int) ≤ z) : Calls Try.prog 18 #[v, Vi z] W fun e w' => e = .returned (.tuple #[Vi 0, errv 3]) ∧ Ext W w' := by
  obtain ⟨t, A, n, c, lp, rp, rfl, hE, hok, hFl, hbox⟩ := h.box
  have hcn : cnt t = l.length := by rw [← hE]; rfl
  have hsn : shw t = (shownE l).length := by rw [← hE]; rfl
  have hb5 : cnt t ≤ 100000 := by omega
  have hX : Ext W (W.alloc (.cells #[.slice A n c, .pointer lp, .pointer rp, Vi (htT t), Vi (cnt t), Vi (shw t), Vq (loT t), Vq (hiT t)] 31)) := (Ext.refl W).alloc _
  have hA := hbox (Gb F W) _ (fun b hb => .inl hb) (.inr (Nat.le_refl _)) (Ext.refl _)
  obtain ⟨W1, hW1⟩ : ∃ Z, W.alloc (.cells #[.slice A n c, .pointer lp, .pointer rp, Vi (htT t), Vi (cnt t), Vi (shw t), Vq (loT t), Vq (hiT t)] 31) = Z := ⟨_, rfl⟩
  obtain ⟨pb, hpb⟩ : ∃ z, W.heap.size = z := ⟨_, rfl⟩
  have hsz : W1.heap.size = pb + 1 := by rw [← hW1, ← hpb]; simp
  rw [hW1] at hA hX
  rw [hpb] at hA
  clear hbox h
  have a5 : W1.cell? ⟨pb, 5, none⟩ = some (Vi (shw t)) := by obtain ⟨_, _, _, _, z, _⟩ := hA; exact z.c5
  rw [← hW1, ← hpb] at a5
  rw [← hW1] at hX
  have g : (decide (z < 0) = true) ∨ (decide (z < 0) = false ∧ decide ((shw t : Int) ≤ z) = true) := by
    by_cases h2 : z < 0
    · exact .inl (decide_eq_true h2)
    · exact .inr ⟨decide_eq_false h2, decide_eq_true (by omega)⟩
  clear hA hW1 hsz hpb
  rcases g with g1 | ⟨g1, g2⟩
  · clear ho
    replace hcn := Lib.hid hcn
    replace hsn := Lib.hid hsn
    go_enter Try.func18, Try.ntmps18
    go_wp2
    exact bodyPost_ret (v := .tuple #[Vi 0, errv 3]) (by simp [results, Try.results18, go_sem, errv]) rfl ⟨rfl, hX⟩
  · clear ho
    replace hcn := Lib.hid hcn
    replace hsn := Lib.hid hsn
    go_enter Try.func18, Try.ntmps18
    go_wp2
    exact bodyPost_ret (v := .tuple #[Vi 0, errv 3]) (by simp [results, Try.results18, go_sem, errv]) rfl ⟨rfl, hX⟩
set_option maxRecDepth 100000 in
set_option maxHeartbeats 8000000 in
theorem find_ix {F : Nat → Prop} (W : World) (v : Value) (l : List En) (c0 k0 : Int) (h : Ix F W v l) (hl : l.length ≤ 1000) : Calls Try.prog 15 #[v, idv c0 k0] W fun e w' => e = .returned (.tuple #[Vi (fndV l c0 k0), .bool (fndB l c0 k0)]) ∧ Ext W w' := by
  obtain ⟨t, A, n, c, lp, rp, rfl, hE, hok, hFl, hbox⟩ := h.box
  have hcn : cnt t = l.length := by rw [← hE]; rfl
  have hsn : shw t = (shownE l).length := by rw [← hE]; rfl
  have hb5 : cnt t ≤ 100000 := by omega
  have hX : Ext W (W.alloc (.cells #[.slice A n c, .pointer lp, .pointer rp, Vi (htT t), Vi (cnt t), Vi (shw t), Vq (loT t), Vq (hiT t)] 31)) := (Ext.refl W).alloc _
  have hA := hbox (Gb F W) _ (fun b hb => .inl hb) (.inr (Nat.le_refl _)) (Ext.refl _)
  obtain ⟨W1, hW1⟩ : ∃ Z, W.alloc (.cells #[.slice A n c, .pointer lp, .pointer rp, Vi (htT t), Vi (cnt t), Vi (shw t), Vq (loT t), Vq (hiT t)] 31) = Z := ⟨_, rfl⟩
  obtain ⟨pb, hpb⟩ : ∃ z, W.heap.size = z := ⟨_, rfl⟩
  have hsz : W1.heap.size = pb + 1 := by rw [← hW1, ← hpb]; simp
  rw [hW1] at hA hX
  rw [hpb] at hA
  clear hbox h
  have x2 : Ext W1 (W1.alloc (.cells #[.int .u32 c0, .int .u32 k0] 36)) := (Ext.refl W1).alloc _
  obtain ⟨W2, hW2⟩ : ∃ Z, W1.alloc (.cells #[.int .u32 c0, .int .u32 k0] 36) = Z := ⟨_, rfl⟩
  rw [hW2] at x2
  have hf := find_any c0 k0 t pb W2 (hA.ext x2) hb5
  rw [hE] at hf
  replace hf := Lib.hid hf
  clear hA
  replace hW2 := Lib.hid hW2
  replace hW1 := Lib.hid hW1
  replace hpb := Lib.hid hpb
  replace hcn := Lib.hid hcn
  replace hsn := Lib.hid hsn
  go_enter Try.func15, Try.ntmps15
  go_wp2_with fail
  rw [hW1.out, hW2.out, hpb.out]
  refine hf.out.mono ?_
  rintro e w3 ⟨rfl, x3⟩
  go_wp2
  exact bodyPost_ret (v := .tuple #[Vi (fndV l c0 k0), .bool (fndB l c0 k0)]) (by simp [results, Try.results15, go_sem]) rfl ⟨rfl, (hX.trans x2).trans x3⟩

end Go.Proofs.Ytanknhalgoheeaa
