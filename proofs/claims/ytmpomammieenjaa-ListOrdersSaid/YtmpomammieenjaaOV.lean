/-
  Several texts of this seat in one file, each in the namespace again; no claim stands here.
-/
import Derived.StillTailTactics
import Derived.Test.YtmpomammieenjaaOU
import Derived.Test.YtmpomammieenjaaOS
namespace Go.Proofs.Ytmpomammieenjaa
open Go.ChangeShapes Go.WideShapes Go.ChangeAt Go.RowKit Go.Sort
set_option linter.unusedVariables false
set_option linter.unusedSimpArgs false

end Go.Proofs.Ytmpomammieenjaa

namespace Go.Proofs.Ytmpomammieenjaa
open Go.ChangeShapes Go.WideShapes Go.ChangeAt Go.RowKit Go.Sort
set_option linter.unusedVariables false
set_option linter.unusedSimpArgs false
attribute [local go_sem] World.cell?_alloc_some

def RO (row : Option Nat) (W W' : World) : Prop := W.grownBy W' row
theorem RO.trans {row : Option Nat} {a b c : World} (h : RO row a b) (k : RO row b c) : RO row a c :=
  ⟨k.os.trans h.os, k.tape.trans h.tape, k.output.trans h.output, Nat.le_trans h.size k.size, fun j hj hne => (k.block j (Nat.lt_of_lt_of_le hj h.size) hne).trans (h.block j hj hne)⟩
theorem RO.ext {row : Option Nat} {a b : World} (h : Ext a b) : RO row a b := ⟨RowKit.Below.os h, RowKit.Below.tape h, RowKit.Below.output h, h.size, fun k hk _ => RowKit.Below.block h k hk⟩
theorem RO.size {row : Option Nat} {a b : World} (h : RO row a b) : a.heap.size ≤ b.heap.size := World.grownBy.size h
theorem RO.cell {row : Option Nat} {q j : Nat} {W W' : World} {x : Value} (h : RO row W W') (hc : W.cell? ⟨q, j, none⟩ = some x) (hne : some q ≠ row) : W'.cell? ⟨q, j, none⟩ = some x := by
  rw [World.cell?_of_block (w := W) (w' := W') (a := ⟨q, j, none⟩) (World.grownBy.block h q (World.block_lt_of_cell? _ _ hc) hne)]; exact hc
theorem RO.blk {row : Option Nat} {q : Nat} {W W' : World} {o : Obj} (h : RO row W W') (hc : W.heap[q]? = some o) (hne : some q ≠ row) : W'.heap[q]? = some o := by
  rw [World.grownBy.block h q (Array.getElem?_eq_some_iff.1 hc).1 hne]; exact hc
structure TS (S : Nat → Prop) (W W' : World) : Prop where
  os : W'.os = W.os
  tape : W'.tape = W.tape
  output : W'.output = W.output
  size : W.heap.size ≤ W'.heap.size
  block : ∀ k, k < W.heap.size → ¬ S k → W'.heap[k]? = W.heap[k]?
theorem TS.refl (S : Nat → Prop) (W : World) : TS S W W := ⟨rfl, rfl, rfl, Nat.le_refl _, fun _ _ _ => rfl⟩
theorem TS.trans {S T : Nat → Prop} {a b c : World} (h : TS S a b) (k : TS T b c) (hT : ∀ j, j < a.heap.size → T j → S j) : TS S a c :=
  ⟨k.os.trans h.os, k.tape.trans h.tape, k.output.trans h.output, Nat.le_trans h.size k.size, fun j hj hn => (k.block j (Nat.lt_of_lt_of_le hj h.size) (fun e => hn (hT j hj e))).trans (h.block j hj hn)⟩
theorem TS.ext {S : Nat → Prop} {a b : World} (h : Ext a b) : TS S a b := ⟨RowKit.Below.os h, RowKit.Below.tape h, RowKit.Below.output h, h.size, fun k hk _ => RowKit.Below.block h k hk⟩
theorem TS.on {S : Nat → Prop} {a b c : World} {row : Option Nat} (h : TS S a b) (g : b.grownBy c row) (hr : ∀ k, row = some k → k < a.heap.size → S k) : TS S a c :=
  ⟨(World.grownBy.os g).trans h.os, (World.grownBy.tape g).trans h.tape, (World.grownBy.output g).trans h.output, Nat.le_trans h.size (World.grownBy.size g), fun j hj hn => (World.grownBy.block g j (Nat.lt_of_lt_of_le hj h.size) (fun e => hn (hr j e.symm hj))).trans (h.block j hj hn)⟩
theorem TS.cell {S : Nat → Prop} {q j : Nat} {W W' : World} {x : Value} (h : TS S W W') (hc : W.cell? ⟨q, j, none⟩ = some x) (hne : ¬ S q) : W'.cell? ⟨q, j, none⟩ = some x := by
  rw [World.cell?_of_block (w := W) (w' := W') (a := ⟨q, j, none⟩) (h.block q (World.block_lt_of_cell? _ _ hc) hne)]; exact hc
theorem TS.blk {S : Nat → Prop} {q : Nat} {W W' : World} {o : Obj} (h : TS S W W') (hc : W.heap[q]? = some o) (hne : ¬ S q) : W'.heap[q]? = some o := by
  rw [h.block q (Array.getElem?_eq_some_iff.1 hc).1 hne]; exact hc
theorem TS.down {S : Nat → Prop} {w0 W W' : World} (h : TS S W W') (hx : Ext w0 W) (hS : ∀ k, S k → w0.heap.size ≤ k) : Ext w0 W' := by
  refine ⟨h.os.trans (RowKit.Below.os hx), h.tape.trans (RowKit.Below.tape hx), h.output.trans (RowKit.Below.output hx), Nat.le_trans hx.size h.size, fun k hk => ?_⟩
  rw [h.block k (Nat.lt_of_lt_of_le hk hx.size) (fun e => by have := hS k e; omega)]
  exact RowKit.Below.block hx k hk
def lmB (q : Nat) (va vb : Value) (k : Nat) : Prop := k = q ∨ va.ownBlock = some k ∨ vb.ownBlock = some k
structure RfM (w0 W : World) (q : Nat) (va vb : Value) (L : List It) (G : List I2) : Prop where
  box : W.heap[q]? = some (.cells #[va, vb] 38 (0, 0))
  oi : OwnI w0 W va L
  oo : OwnO w0 W vb G
  lq : w0.heap.size ≤ q
  qa : va.ownBlock ≠ some q
  qb : vb.ownBlock ≠ some q
  ab : va.ownBlock = none ∨ va.ownBlock ≠ vb.ownBlock
theorem RfM.lt {w0 W : World} {q : Nat} {va vb : Value} {L : List It} {G : List I2} (h : RfM w0 W q va vb L G) : q < W.heap.size := (Array.getElem?_eq_some_iff.1 h.box).1
theorem RfM.low {w0 W : World} {q : Nat} {va vb : Value} {L : List It} {G : List I2} (h : RfM w0 W q va vb L G) : ∀ k, lmB q va vb k → w0.heap.size ≤ k ∧ k < W.heap.size := by
  rintro k (rfl | e | e)
  · exact ⟨h.lq, h.lt⟩
  · exact h.oi.lt k e
  · exact h.oo.lt k e
theorem RfM.ext {w0 W W' : World} {q : Nat} {va vb : Value} {L : List It} {G : List I2} (h : RfM w0 W q va vb L G) (hx : Ext W W') : RfM w0 W' q va vb L G :=
  ⟨(RowKit.Below.block hx q h.lt).trans h.box, h.oi.ext hx, h.oo.ext hx, h.lq, h.qa, h.qb, h.ab⟩
theorem RfM.cells {w0 W : World} {q : Nat} {va vb : Value} {L : List It} {G : List I2} (h : RfM w0 W q va vb L G) : W.cell? ⟨q, 0, none⟩ = some va ∧ W.cell? ⟨q, 1, none⟩ = some vb ∧ W.frozen? ⟨q, 0, none⟩ = false ∧ W.frozen? ⟨q, 1, none⟩ = false :=
  ⟨by rw [cell_of_row W q 0 _ _ _ h.box]; rfl, by rw [cell_of_row W q 1 _ _ _ h.box]; rfl, frozen_of_row W q 0 _ _ h.box, frozen_of_row W q 1 _ _ h.box⟩
theorem RfM.read {w0 W : World} {q : Nat} {va vb : Value} {L : List It} {G : List I2} (h : RfM w0 W q va vb L G) : LmS W q L G := by
  obtain ⟨c0, c1, _, _⟩ := h.cells
  obtain ⟨A, cA, rfl, hcA, hA⟩ := h.oi.open
  obtain ⟨B, cB, rfl, hcB, hB⟩ := h.oo.open
  exact ⟨A, cA, B, cB, c0, c1, hcA, hcB, hA, hB⟩
theorem OdS.box {W : World} {q : Nat} {a b : Int} (h : W.heap[q]? = some (.cells #[.int .u32 a, .int .u32 b] 41 (0, 0))) : OdS W (some ⟨q, 0, none⟩) [(a, b)] := fun _ => ⟨_, _, rfl, fun j u hu => by rw [← add_at]; exact World.news_of_block h j u hu⟩
end Go.Proofs.Ytmpomammieenjaa

namespace Go.Proofs.Ytmpomammieenjaa
open Go.ChangeShapes Go.WideShapes Go.ChangeAt Go.RowKit Go.Sort
set_option linter.unusedVariables false
set_option linter.unusedSimpArgs false

structure Lv where
  A : Option Addr
  n : Nat
  c : Nat
  l : Option Addr
  r : Option Addr
  h : Int
  m : Int
  s : Int
  lo : Int
  hi : Int
  p : Option Addr
abbrev lsv (x : Lv) : Value := .agg #[.slice x.A x.n x.c, .pointer x.l, .pointer x.r, Vi x.h, Vi x.m, Vi x.s, Vq x.lo, Vq x.hi, .pointer x.p]
abbrev zeroL : Value := .agg #[.slice none 0 0, .pointer none, .pointer none, Vi 0, Vi 0, Vi 0, Vq 0, Vq 0, .pointer none]
abbrev zLv : Lv := ⟨none, 0, 0, none, none, 0, 0, 0, 0, 0, none⟩
def BxL (W : World) (q : Nat) (x : Lv) : Prop := W.heap[q]? = some (.cells #[.slice x.A x.n x.c, .pointer x.l, .pointer x.r, Vi x.h, Vi x.m, Vi x.s, Vq x.lo, Vq x.hi, .pointer x.p] 33 (0, 0))
theorem BxL.new (W : World) (x : Lv) : BxL (W.alloc (.cells #[.slice x.A x.n x.c, .pointer x.l, .pointer x.r, Vi x.h, Vi x.m, Vi x.s, Vq x.lo, Vq x.hi, .pointer x.p] 33)) W.heap.size x := heap_alloc_new W _
theorem BxL.lt {W : World} {q : Nat} {x : Lv} (h : BxL W q x) : q < W.heap.size := (Array.getElem?_eq_some_iff.1 h).1
theorem BxL.ext {W W' : World} {q : Nat} {x : Lv} (h : BxL W q x) (hx : Ext W W') : BxL W' q x := (RowKit.Below.block hx q h.lt).trans h
theorem BxL.ts {W W' : World} {q : Nat} {x : Lv} {S : Nat → Prop} (h : BxL W q x) (hx : TS S W W') (hn : ¬ S q) : BxL W' q x := hx.blk h hn
theorem BxL.cells {W : World} {q : Nat} {x : Lv} (h : BxL W q x) : W.cell? ⟨q, 0, none⟩ = some (.slice x.A x.n x.c) ∧ W.cell? ⟨q, 1, none⟩ = some (.pointer x.l) ∧ W.cell? ⟨q, 2, none⟩ = some (.pointer x.r) ∧ W.cell? ⟨q, 3, none⟩ = some (Vi x.h) ∧ W.cell? ⟨q, 4, none⟩ = some (Vi x.m) ∧ W.cell? ⟨q, 5, none⟩ = some (Vi x.s) ∧ W.cell? ⟨q, 6, none⟩ = some (Vq x.lo) ∧ W.cell? ⟨q, 7, none⟩ = some (Vq x.hi) ∧ W.cell? ⟨q, 8, none⟩ = some (.pointer x.p) :=
  ⟨cell_of_row W q 0 _ _ _ h, cell_of_row W q 1 _ _ _ h, cell_of_row W q 2 _ _ _ h, cell_of_row W q 3 _ _ _ h, cell_of_row W q 4 _ _ _ h, cell_of_row W q 5 _ _ _ h, cell_of_row W q 6 _ _ _ h, cell_of_row W q 7 _ _ _ h, cell_of_row W q 8 _ _ _ h⟩
theorem BxL.thaw {W : World} {q : Nat} {x : Lv} (h : BxL W q x) (j : Nat) : W.frozen? ⟨q, j, none⟩ = false := frozen_of_row W q j _ _ h
abbrev putL (W : World) (q : Nat) (y : Lv) : World := (((((((((W.setCell ⟨q, 0, none⟩ (.slice y.A y.n y.c)).setCell ⟨q, 1, none⟩ (.pointer y.l)).setCell ⟨q, 2, none⟩ (.pointer y.r)).setCell ⟨q, 3, none⟩ (Vi y.h)).setCell ⟨q, 4, none⟩ (Vi y.m)).setCell ⟨q, 5, none⟩ (Vi y.s)).setCell ⟨q, 6, none⟩ (Vq y.lo)).setCell ⟨q, 7, none⟩ (Vq y.hi)).setCell ⟨q, 8, none⟩ (.pointer y.p))
theorem BxL.put {W : World} {q : Nat} {x : Lv} (h : BxL W q x) (y : Lv) : BxL (putL W q y) q y := by
  unfold BxL at h ⊢
  unfold putL
  have h0 : (W.setCell ⟨q, 0, none⟩ (.slice y.A y.n y.c)).heap[q]? = some (.cells #[.slice y.A y.n y.c, .pointer x.l, .pointer x.r, Vi x.h, Vi x.m, Vi x.s, Vq x.lo, Vq x.hi, .pointer x.p] 33 (0, 0)) := heap_setCell_same W q 0 _ _ _ h
  generalize W.setCell ⟨q, 0, none⟩ (.slice y.A y.n y.c) = W0 at *
  have h1 : (W0.setCell ⟨q, 1, none⟩ (.pointer y.l)).heap[q]? = some (.cells #[.slice y.A y.n y.c, .pointer y.l, .pointer x.r, Vi x.h, Vi x.m, Vi x.s, Vq x.lo, Vq x.hi, .pointer x.p] 33 (0, 0)) := heap_setCell_same W0 q 1 _ _ _ h0
  generalize W0.setCell ⟨q, 1, none⟩ (.pointer y.l) = W1 at *
  have h2 : (W1.setCell ⟨q, 2, none⟩ (.pointer y.r)).heap[q]? = some (.cells #[.slice y.A y.n y.c, .pointer y.l, .pointer y.r, Vi x.h, Vi x.m, Vi x.s, Vq x.lo, Vq x.hi, .pointer x.p] 33 (0, 0)) := heap_setCell_same W1 q 2 _ _ _ h1
  generalize W1.setCell ⟨q, 2, none⟩ (.pointer y.r) = W2 at *
  have h3 : (W2.setCell ⟨q, 3, none⟩ (Vi y.h)).heap[q]? = some (.cells #[.slice y.A y.n y.c, .pointer y.l, .pointer y.r, Vi y.h, Vi x.m, Vi x.s, Vq x.lo, Vq x.hi, .pointer x.p] 33 (0, 0)) := heap_setCell_same W2 q 3 _ _ _ h2
  generalize W2.setCell ⟨q, 3, none⟩ (Vi y.h) = W3 at *
  have h4 : (W3.setCell ⟨q, 4, none⟩ (Vi y.m)).heap[q]? = some (.cells #[.slice y.A y.n y.c, .pointer y.l, .pointer y.r, Vi y.h, Vi y.m, Vi x.s, Vq x.lo, Vq x.hi, .pointer x.p] 33 (0, 0)) := heap_setCell_same W3 q 4 _ _ _ h3
  generalize W3.setCell ⟨q, 4, none⟩ (Vi y.m) = W4 at *
  have h5 : (W4.setCell ⟨q, 5, none⟩ (Vi y.s)).heap[q]? = some (.cells #[.slice y.A y.n y.c, .pointer y.l, .pointer y.r, Vi y.h, Vi y.m, Vi y.s, Vq x.lo, Vq x.hi, .pointer x.p] 33 (0, 0)) := heap_setCell_same W4 q 5 _ _ _ h4
  generalize W4.setCell ⟨q, 5, none⟩ (Vi y.s) = W5 at *
  have h6 : (W5.setCell ⟨q, 6, none⟩ (Vq y.lo)).heap[q]? = some (.cells #[.slice y.A y.n y.c, .pointer y.l, .pointer y.r, Vi y.h, Vi y.m, Vi y.s, Vq y.lo, Vq x.hi, .pointer x.p] 33 (0, 0)) := heap_setCell_same W5 q 6 _ _ _ h5
  generalize W5.setCell ⟨q, 6, none⟩ (Vq y.lo) = W6 at *
  have h7 : (W6.setCell ⟨q, 7, none⟩ (Vq y.hi)).heap[q]? = some (.cells #[.slice y.A y.n y.c, .pointer y.l, .pointer y.r, Vi y.h, Vi y.m, Vi y.s, Vq y.lo, Vq y.hi, .pointer x.p] 33 (0, 0)) := heap_setCell_same W6 q 7 _ _ _ h6
  generalize W6.setCell ⟨q, 7, none⟩ (Vq y.hi) = W7 at *
  have h8 : (W7.setCell ⟨q, 8, none⟩ (.pointer y.p)).heap[q]? = some (.cells #[.slice y.A y.n y.c, .pointer y.l, .pointer y.r, Vi y.h, Vi y.m, Vi y.s, Vq y.lo, Vq y.hi, .pointer y.p] 33 (0, 0)) := heap_setCell_same W7 q 8 _ _ _ h7
  exact h8
theorem putL_rx (W : World) (q : Nat) (y : Lv) : RX q W (putL W q y) := (((((((((RX.refl q W).set 0 _ (.inr rfl)).set 1 _ (.inr rfl)).set 2 _ (.inr rfl)).set 3 _ (.inr rfl)).set 4 _ (.inr rfl)).set 5 _ (.inr rfl)).set 6 _ (.inr rfl)).set 7 _ (.inr rfl)).set 8 _ (.inr rfl)
end Go.Proofs.Ytmpomammieenjaa

namespace Go.Proofs.Ytmpomammieenjaa
open Go.ChangeShapes Go.WideShapes Go.ChangeAt Go.RowKit Go.Sort
set_option linter.unusedVariables false
set_option linter.unusedSimpArgs false
attribute [local go_sem] World.cell?_alloc_some

end Go.Proofs.Ytmpomammieenjaa

namespace Go.Proofs.Ytmpomammieenjaa
open Go.ChangeShapes Go.WideShapes Go.ChangeAt Go.RowKit Go.Sort
set_option linter.unusedVariables false
set_option linter.unusedSimpArgs false
attribute [local go_sem] World.cell?_alloc_some

abbrev zE : En := ⟨0, 0, 0, false⟩
structure Xv where
  A : Option Addr
  n : Nat
  c : Nat
  l : Option Addr
  r : Option Addr
  h : Int
  m : Int
  s : Int
  lo : Int
  hi : Int
abbrev ixv (x : Xv) : Value := .agg #[.slice x.A x.n x.c, .pointer x.l, .pointer x.r, Vi x.h, Vi x.m, Vi x.s, Vq x.lo, Vq x.hi]
def Bx (W : World) (b : Nat) (x : Xv) : Prop := PtC W b (.slice x.A x.n x.c) (.pointer x.l) (.pointer x.r) x.h x.m x.s x.lo x.hi
theorem Bx.ext {W W' : World} {b : Nat} {x : Xv} (h : Bx W b x) (hx : Ext W W') : Bx W' b x := PtC.ext h hx
theorem Bx.new (W : World) (x : Xv) (T : TypeId) : Bx (W.alloc (.cells #[.slice x.A x.n x.c, .pointer x.l, .pointer x.r, Vi x.h, Vi x.m, Vi x.s, Vq x.lo, Vq x.hi] T)) W.heap.size x := PtC.new _ _ _ _ _ _ _ _ _ _
theorem Bx.row {W : World} {b : Nat} {x : Xv} {T : TypeId} (h : W.heap[b]? = some (.cells #[.slice x.A x.n x.c, .pointer x.l, .pointer x.r, Vi x.h, Vi x.m, Vi x.s, Vq x.lo, Vq x.hi] T (0, 0))) : Bx W b x :=
  ⟨cell_of_row W b 0 _ _ _ h, cell_of_row W b 1 _ _ _ h, cell_of_row W b 2 _ _ _ h, cell_of_row W b 3 _ _ _ h, cell_of_row W b 4 _ _ _ h, cell_of_row W b 5 _ _ _ h, cell_of_row W b 6 _ _ _ h, cell_of_row W b 7 _ _ _ h⟩
end Go.Proofs.Ytmpomammieenjaa

namespace Go.Proofs.Ytmpomammieenjaa
open Go.ChangeShapes Go.WideShapes Go.ChangeAt Go.RowKit Go.Sort
set_option linter.unusedVariables false
set_option linter.unusedSimpArgs false
attribute [local go_sem] World.cell?_alloc_some

abbrev zeroX : Value := .agg #[.slice none 0 0, .pointer none, .pointer none, Vi 0, Vi 0, Vi 0, Vq 0, Vq 0]
end Go.Proofs.Ytmpomammieenjaa

namespace Go.Proofs.Ytmpomammieenjaa
open Go.ChangeShapes Go.WideShapes Go.ChangeAt Go.RowKit Go.Sort
set_option linter.unusedVariables false
set_option linter.unusedSimpArgs false
attribute [local go_sem] World.cell?_alloc_some

theorem leaf_any (b : Nat) (w : World) (h1 : w.cell? ⟨b, 1, none⟩ = some Vnil) : Calls Try.prog 67 #[Vp b] w fun e w' => e = .returned (.bool true) ∧ w = w' := by
  go_enter Try.func67, Try.ntmps67
  go_wp2
  go_ret
  exact ⟨rfl, rfl⟩
theorem node_any (b p : Nat) (w : World) (h1 : w.cell? ⟨b, 1, none⟩ = some (Vp p)) : Calls Try.prog 67 #[Vp b] w fun e w' => e = .returned (.bool false) ∧ w = w' := by
  go_enter Try.func67, Try.ntmps67
  go_wp2
  go_ret
  exact ⟨rfl, rfl⟩

def fndE (l : List En) (c k : Int) : Int := match findE l c k with
  | none => 0
  | some i => (i : Int)
def fndB (l : List En) (c k : Int) : Bool := (findE l c k).isSome

set_option maxRecDepth 100000 in
set_option maxHeartbeats 4000000 in
theorem findIn_any (A : Option Addr) (n cap : Nat) (l : List En) (c k : Int) (w : World) (hv : EnS w A l) (hn : l.length = n) (hb : n ≤ 100000) :
    Calls Try.prog 96 #[.slice A n cap, idv c k] w fun e w' => e = .returned (.tuple #[Vi (fndE l c k), .bool (fndB l c k)]) ∧ Ext w w' := by
  obtain ⟨R, hR⟩ : ∃ R : Option Nat, findE l c k = R := ⟨_, rfl⟩
  have hR0 := Lib.hid (show (findE (l.drop 0) c k).map (· + 0) = R by rw [← hR, List.drop_zero]; cases findE l c k <;> rfl)
  obtain ⟨V, hV⟩ : ∃ V, fndE l c k = V := ⟨_, rfl⟩
  obtain ⟨B, hB⟩ : ∃ B, fndB l c k = B := ⟨_, rfl⟩
  have hsome := Lib.hid (show ∀ j, R = some j → V = (j : Int) ∧ B = true by
    intro j h
    rw [← hV, ← hB]
    unfold fndE fndB
    rw [hR, h]
    exact ⟨rfl, rfl⟩)
  have hnone := Lib.hid (show R = none → V = 0 ∧ B = false by
    intro h
    rw [← hV, ← hB]
    unfold fndE fndB
    rw [hR, h]
    exact ⟨rfl, rfl⟩)
  rw [hV, hB]
  clear hR hV hB
  replace hn := Lib.hid hn
  replace hv := Lib.hid hv
  go_enter Try.func96, Try.ntmps96
  go_wp2
  have x0 : Ext w (w.alloc (.cells #[.int .u32 c, .int .u32 k] 41)) := (Ext.refl _).alloc _
  have a0 : (w.alloc (.cells #[.int .u32 c, .int .u32 k] 41)).cell? ⟨w.heap.size, 0, none⟩ = some (Vu c) := by simp [go_sem]
  have a1 : (w.alloc (.cells #[.int .u32 c, .int .u32 k] 41)).cell? ⟨w.heap.size, 1, none⟩ = some (Vu k) := by simp [go_sem]
  generalize w.alloc (.cells #[.int .u32 c, .int .u32 k] 41) = w0 at *
  generalize w.heap.size = pa at *
  go_loopw [10] (fun i W => ∃ (j : Nat), j ≤ n ∧ i = Vi j ∧ Hid ((findE (l.drop j) c k).map (· + j) = R) ∧ Ext w0 W) (fun i _ => n - (intOf i).toNat)
  case atStart => exact ⟨0, Nat.zero_le _, rfl, hR0, Ext.refl _⟩
  case round =>
    clear hR0
    obtain ⟨j, hj, rfl, hrel, hx⟩ := hrel
    have y0 := hx.keep a0
    have y1 := hx.keep a1
    by_cases hlt : j < n
    · obtain ⟨b, o, x, rfl, hp, d⟩ := (hv.out.ext (x0.trans hx)).at (k := j) (by rw [hn.out]; exact hlt)
      obtain ⟨c0, c1, c2, c3⟩ := d
      have hi1 : (0 : Int) ≤ (j : Int) := by omega
      have hi2 : (j : Int) < (n : Int) := by omega
      by_cases hs : x.c = c ∧ x.k = k
      · have hd : decide (x.c = c ∧ x.k = k) = true := decide_eq_true hs
        have hr := Lib.hid (show R = some j by rw [← hrel.out, find_here hp (by unfold sameE; exact hd)]; simp)
        have hq : ∀ W : World, (binOp .eql 41 (.agg #[.int .u32 x.c, .int .u32 x.k]) (.agg #[.int .u32 c, .int .u32 k])).run Try.prog W = .ok (.bool true) W := fun W => by rw [idE_eql _ _ _ _ Try.prog, hd]
        clear hs hd hp hrel
        go_wp2
        exact bodyPost_ret (v := .tuple #[Vi j, .bool true]) (by simp [results, Try.results96, go_sem]) rfl ⟨by rw [(hsome.out j hr.out).1, (hsome.out j hr.out).2], (x0.trans hx).alloc _⟩
      · have hd : decide (x.c = c ∧ x.k = k) = false := decide_eq_false hs
        have hr := Lib.hid (show (findE (l.drop (j + 1)) c k).map (· + (j + 1)) = R by
          rw [← hrel.out, find_drop hp (by unfold sameE; exact hd)]
          cases findE (l.drop (j + 1)) c k with
          | none => rfl
          | some i => simp; omega)
        have hq : ∀ W : World, (binOp .eql 41 (.agg #[.int .u32 x.c, .int .u32 x.k]) (.agg #[.int .u32 c, .int .u32 k])).run Try.prog W = .ok (.bool false) W := fun W => by rw [idE_eql _ _ _ _ Try.prog, hd]
        clear hs hd hp hrel
        go_wp2
        go_roundw
        case rel => exact ⟨j + 1, by omega, by go_num, hr, hx.alloc _⟩
        case measure => simp [intOf]; omega
    · have hz := Lib.hid (show R = none by rw [← hrel.out, List.drop_eq_nil_of_le (by rw [hn.out]; omega)]; rfl)
      go_wp2
      exact bodyPost_ret (v := .tuple #[Vi 0, .bool false]) (by simp [results, Try.results96, go_sem]) rfl ⟨by rw [(hnone.out hz.out).1, (hnone.out hz.out).2], x0.trans hx⟩

set_option maxRecDepth 100000 in
set_option maxHeartbeats 4000000 in
theorem atIn_any (A : Option Addr) (n cap : Nat) (l : List En) (q p : Nat) (w : World) (hv : EnS w A l) (hn : l.length = n) (hb : n ≤ 100000) (hp : (shownE l)[q]? = some p) :
    Calls Try.prog 105 #[.slice A n cap, Vi (q : Int)] w fun e w' => e = .returned (Vi (p : Int)) ∧ w = w' := by
  have hq0 := Lib.hid (show (shownG 0 (l.drop 0))[q]? = some p from hp)
  have hqb : q ≤ 100000 := by
    have h1 := (List.getElem?_eq_some_iff.1 hp).1
    have h2 := shown_len l 0
    unfold shownE at h1
    omega
  clear hp
  replace hn := Lib.hid hn
  replace hv := Lib.hid hv
  go_enter Try.func105, Try.ntmps105
  go_wp2
  go_loopw [1, 5] (fun kk i W => ∃ (j q : Nat), j ≤ n ∧ q ≤ 100000 ∧ i = Vi j ∧ kk = Vi q ∧ Hid ((shownG j (l.drop j))[q]? = some p) ∧ W = w) (fun _ i _ => n - (intOf i).toNat)
  case atStart => exact ⟨0, q, Nat.zero_le _, hqb, rfl, rfl, hq0, rfl⟩
  case round =>
    clear hq0 hqb
    clear q
    obtain ⟨j, q, hj, hqb, rfl, rfl, hrel, rfl⟩ := hrel
    have hlt : j < n := by
      rcases Nat.lt_or_ge j n with h | h
      · exact h
      · have := hrel.out
        rw [List.drop_eq_nil_of_le (by rw [hn.out]; exact h)] at this
        simp [shownG] at this
    obtain ⟨b, o, x, rfl, hp, d⟩ := hv.out.at (k := j) (by rw [hn.out]; exact hlt)
    obtain ⟨c0, c1, c2, c3⟩ := d
    have hi1 : (0 : Int) ≤ (j : Int) := by omega
    have hi2 : (j : Int) < (n : Int) := by omega
    have hst := shown_step hp
    cases hg : x.g with
    | true =>
      rw [hg] at c3
      rw [hg, if_pos rfl] at hst
      have hr := Lib.hid (show (shownG (j + 1) (l.drop (j + 1)))[q]? = some p by rw [← hrel.out, hst])
      clear hst hp hrel hg
      go_wp2
      go_roundw
      case rel => exact ⟨j + 1, q, by omega, hqb, by go_num, rfl, hr, trivial⟩
      case measure => simp [intOf]; omega
    | false =>
      rw [hg] at c3
      rw [hg, if_neg (by simp)] at hst
      rcases Nat.eq_zero_or_pos q with h0 | h0
      · subst h0
        have hr := Lib.hid (show j = p by have := hrel.out; rw [hst] at this; simpa using this)
        clear hst hp hrel hg
        go_wp2
        go_ret
        exact ⟨by rw [hr.out]; rfl, rfl⟩
      · obtain ⟨q', rfl⟩ : ∃ q', q = q' + 1 := ⟨q - 1, by omega⟩
        have hr := Lib.hid (show (shownG (j + 1) (l.drop (j + 1)))[q']? = some p by have := hrel.out; rw [hst] at this; simpa using this)
        have hd : decide (0 < ((q' + 1 : Nat) : Int)) = true := by rw [decide_eq_true_eq]; omega
        have hd2 : decide ((0 : Int) < (q' : Int) + 1) = true := by rw [decide_eq_true_eq]; omega
        clear hst hp hrel hg
        go_wp2
        go_roundw
        case rel => exact ⟨j + 1, q', by omega, by omega, by go_num, by go_num, hr, trivial⟩
        case measure => simp [intOf]; omega


theorem fnd_left {l m : List En} {c k : Int} (h : fndB l c k = true) : fndE (l ++ m) c k = fndE l c k ∧ fndB (l ++ m) c k = true := by
  unfold fndE fndB at *
  rw [find_append]
  cases hf : findE l c k with
  | none => rw [hf] at h; cases h
  | some i => exact ⟨rfl, rfl⟩
theorem fnd_right {l m : List En} {c k : Int} (h : fndB l c k = false) (h2 : fndB m c k = true) : fndE (l ++ m) c k = (l.length : Int) + fndE m c k ∧ fndB (l ++ m) c k = true := by
  unfold fndE fndB at *
  rw [find_append]
  cases hf : findE l c k with
  | some i => rw [hf] at h; cases h
  | none =>
    cases hm : findE m c k with
    | none => rw [hm] at h2; cases h2
    | some j =>
      refine ⟨?_, rfl⟩
      show ((l.length + j : Nat) : Int) = (l.length : Int) + (j : Int)
      omega
theorem fnd_not {l m : List En} {c k : Int} (h : fndB l c k = false) (h2 : fndB m c k = false) : fndE (l ++ m) c k = 0 ∧ fndB (l ++ m) c k = false := by
  unfold fndE fndB at *
  rw [find_append]
  cases hf : findE l c k with
  | some i => rw [hf] at h; cases h
  | none =>
    cases hm : findE m c k with
    | some i => rw [hm] at h2; cases h2
    | none => exact ⟨rfl, rfl⟩
theorem fnd_bound (l : List En) (c k : Int) : 0 ≤ fndE l c k ∧ fndE l c k ≤ l.length := by
  cases h : findE l c k with
  | none => unfold fndE; rw [h]; simp
  | some i =>
    have := find_lt h
    have e : fndE l c k = (i : Int) := by unfold fndE; rw [h]
    rw [e]
    omega

set_option maxRecDepth 100000 in
set_option maxHeartbeats 16000000 in
theorem find_any {F : Nat → Prop} (c k : Int) : ∀ (t : Tr) (b : Nat) (w : World), AtP F w b t → cnt t ≤ 100000 →
    Calls Try.prog 70 #[Vp b, idv c k] w fun e w' => e = .returned (.tuple #[Vi (fndE (ents t) c k), .bool (fndB (ents t) c k)]) ∧ Ext w w' := by
  intro t
  induction t with
  | leaf l =>
    rintro b w ⟨_, ch, lf, rt, ⟨p0, p1, p2, p3, p4, p5, p6, p7⟩, rfl, rfl, A, cap, rfl, hcap, hE, _⟩ hb
    have hlen : l.length ≤ 100000 := hb
    have hk := Lib.hid (fun W => key_any c k W)
    have hfi := Lib.hid (fun W (hx : Ext w W) => findIn_any A l.length cap l c k W (hE.ext hx) rfl hlen)
    obtain ⟨LO, hLO⟩ : ∃ x, loT (.leaf l) = x := ⟨_, rfl⟩
    obtain ⟨HI, hHI⟩ : ∃ x, hiT (.leaf l) = x := ⟨_, rfl⟩
    have hout := Lib.hid (show (keyV c k < LO ∨ HI < keyV c k) → findE l c k = none by rw [← hLO, ← hHI]; exact fun h => find_out (t := .leaf l) h)
    rw [hLO] at p6
    rw [hHI] at p7
    clear hLO hHI
    show Calls Try.prog 70 #[Vp b, idv c k] w fun e w' => e = .returned (.tuple #[Vi (fndE l c k), .bool (fndB l c k)]) ∧ Ext w w'
    generalize keyV c k = K at *
    obtain ⟨V, hV⟩ : ∃ V, fndE l c k = V := ⟨_, rfl⟩
    obtain ⟨B, hB⟩ : ∃ B, fndB l c k = B := ⟨_, rfl⟩
    have ho2 := Lib.hid (show (K < LO ∨ HI < K) → V = 0 ∧ B = false by
      intro h
      have := hout.out h
      rw [← hV, ← hB]
      unfold fndE fndB
      rw [this]
      exact ⟨rfl, rfl⟩)
    rw [hV, hB] at hfi ⊢
    clear hV hB hout hE hb hcap hlen p3 p4 p5 p2
    go_enter Try.func70, Try.ntmps70
    go_wp2_with fail
    have x0 : Ext w (w.alloc (.cells #[.int .u32 c, .int .u32 k] 41)) := (Ext.refl _).alloc _
    have a0 : (w.alloc (.cells #[.int .u32 c, .int .u32 k] 41)).cell? ⟨w.heap.size, 0, none⟩ = some (Vu c) := by simp [go_sem]
    have a1 : (w.alloc (.cells #[.int .u32 c, .int .u32 k] 41)).cell? ⟨w.heap.size, 1, none⟩ = some (Vu k) := by simp [go_sem]
    have q0 := x0.keep p0
    have q1 := x0.keep p1
    have s6 := cell_regrown (x0.keep p6)
    have s7 := cell_regrown (x0.keep p7)
    have s0 := cell_regrown a0
    have s1 := cell_regrown a1
    clear p0 p1 p6 p7
    generalize w.alloc (.cells #[.int .u32 c, .int .u32 k] 41) = w0 at *
    generalize w.heap.size = pa at *
    by_cases h1 : K < LO
    · have hd : decide (K < LO) = true := decide_eq_true h1
      refine wp_region_quiet_below (by kernel_rfl) (by kernel_rfl) ?_
      repeat go_big_quiet_step ((with_reducible exact Calls.in_regrown (hk.out _)))
      refine wpQuiet_nil ?_
      intro _ hw'
      obtain ⟨⟨dq, osq⟩, hw''⟩ := hw'
      subst hw''
      go_wp2
      exact bodyPost_ret (v := .tuple #[Vi 0, .bool false]) (by simp [results, Try.results70, go_sem]) rfl ⟨by rw [(ho2.out (.inl h1)).1, (ho2.out (.inl h1)).2], x0.trans (Ext.regrown _ _ _)⟩
    · have hd : decide (K < LO) = false := decide_eq_false h1
      by_cases h2 : HI < K
      · have hd2 : decide (HI < K) = true := decide_eq_true h2
        refine wp_region_quiet_below (by kernel_rfl) (by kernel_rfl) ?_
        repeat go_big_quiet_step ((with_reducible exact Calls.in_regrown (hk.out _)))
        refine wpQuiet_nil ?_
        intro _ hw'
        obtain ⟨⟨dq, osq⟩, hw''⟩ := hw'
        subst hw''
        go_wp2
        exact bodyPost_ret (v := .tuple #[Vi 0, .bool false]) (by simp [results, Try.results70, go_sem]) rfl ⟨by rw [(ho2.out (.inr h2)).1, (ho2.out (.inr h2)).2], x0.trans (Ext.regrown _ _ _)⟩
      · have hd2 : decide (HI < K) = false := decide_eq_false h2
        refine wp_region_quiet_below (by kernel_rfl) (by kernel_rfl) ?_
        repeat go_big_quiet_step ((with_reducible exact Calls.in_regrown (hk.out _)))
        refine wpQuiet_nil ?_
        intro _ hw'
        obtain ⟨⟨dq, osq⟩, hw''⟩ := hw'
        subst hw''
        have x1 := x0.trans (Ext.regrown w0 dq osq)
        have q0 := (Ext.regrown w0 dq osq).keep q0
        have q1 := (Ext.regrown w0 dq osq).keep q1
        have a0 := (Ext.regrown w0 dq osq).keep a0
        have a1 := (Ext.regrown w0 dq osq).keep a1
        clear s0 s1 s6 s7
        generalize grow (redrawn w0 dq) osq = w1 at *
        have hl := Lib.hid (leaf_any b w1 q1)
        go_wp2_with fail
        refine hl.out.mono ?_
        rintro e w1' ⟨rfl, rfl⟩
        have s0 := cell_regrown q0
        have s1 := cell_regrown a0
        have s2 := cell_regrown a1
        go_wp2_with fail
        refine wp_region_quiet_below (by kernel_rfl) (by kernel_rfl) ?_
        repeat go_big_quiet_step ((with_reducible exact Calls.in_regrown (hfi.out _ (x1.trans (Ext.regrown _ _ _)))))
        refine wpQuiet_nil ?_
        intro _ hw'
        obtain ⟨⟨dq, osq⟩, hw''⟩ := hw'
        subst hw''
        go_wp2
        exact bodyPost_ret (v := .tuple #[Vi V, .bool B]) (by simp [results, Try.results70, go_sem]) rfl ⟨rfl, x1.trans (Ext.regrown _ _ _)⟩
  | node ta tb iha ihb =>
    rintro b w ⟨_, ch, lf, rt, ⟨p0, p1, p2, p3, p4, p5, p6, p7⟩, hPV⟩ hb
    obtain ⟨rfl, p, q, rfl, rfl, hA, hB⟩ := hPV.node
    rw [cnt_node] at hb
    have hk := Lib.hid (fun W => key_any c k W)
    have hfa := Lib.hid (fun W (hx : Ext w W) => iha p W (hA.ext hx) (by omega))
    have hfb := Lib.hid (fun W (hx : Ext w W) => ihb q W (hB.ext hx) (by omega))
    obtain ⟨_, cha, lfa, rta, ⟨_, _, _, _, l4, _, _, _⟩, _⟩ := hA
    obtain ⟨LO, hLO⟩ : ∃ x, loT (.node ta tb) = x := ⟨_, rfl⟩
    obtain ⟨HI, hHI⟩ : ∃ x, hiT (.node ta tb) = x := ⟨_, rfl⟩
    have hout := Lib.hid (show (keyV c k < LO ∨ HI < keyV c k) → findE (ents (.node ta tb)) c k = none by rw [← hLO, ← hHI]; exact fun h => find_out h)
    rw [hLO] at p6
    rw [hHI] at p7
    clear hLO hHI
    generalize keyV c k = K at *
    obtain ⟨V, hV⟩ : ∃ V, fndE (ents (.node ta tb)) c k = V := ⟨_, rfl⟩
    obtain ⟨B, hBB⟩ : ∃ B, fndB (ents (.node ta tb)) c k = B := ⟨_, rfl⟩
    have ho2 := Lib.hid (show (K < LO ∨ HI < K) → V = 0 ∧ B = false by
      intro h
      have := hout.out h
      rw [← hV, ← hBB]
      unfold fndE fndB
      rw [this]
      exact ⟨rfl, rfl⟩)
    have hL := Lib.hid (show fndB (ents ta) c k = true → V = fndE (ents ta) c k ∧ B = true by rw [← hV, ← hBB]; exact fnd_left)
    have hR := Lib.hid (show fndB (ents ta) c k = false → fndB (ents tb) c k = true → V = (cnt ta : Int) + fndE (ents tb) c k ∧ B = true by rw [← hV, ← hBB]; exact fnd_right)
    have hN := Lib.hid (show fndB (ents ta) c k = false → fndB (ents tb) c k = false → V = 0 ∧ B = false by rw [← hV, ← hBB]; exact fnd_not)
    have hbd := fnd_bound (ents tb) c k
    have hbd2 : ((ents tb).length : Int) = (cnt tb : Int) := rfl
    rw [hbd2] at hbd
    rw [hV, hBB]
    clear hV hBB hout p3 p4 p5 p0 hB hPV iha ihb hbd2
    generalize fndE (ents ta) c k = VA at *
    generalize fndB (ents ta) c k = BA at *
    generalize fndE (ents tb) c k = VB at *
    generalize fndB (ents tb) c k = BB at *
    generalize cnt ta = na at *
    generalize cnt tb = nb at *
    go_enter Try.func70, Try.ntmps70
    go_wp2_with fail
    have x0 : Ext w (w.alloc (.cells #[.int .u32 c, .int .u32 k] 41)) := (Ext.refl _).alloc _
    have a0 : (w.alloc (.cells #[.int .u32 c, .int .u32 k] 41)).cell? ⟨w.heap.size, 0, none⟩ = some (Vu c) := by simp [go_sem]
    have a1 : (w.alloc (.cells #[.int .u32 c, .int .u32 k] 41)).cell? ⟨w.heap.size, 1, none⟩ = some (Vu k) := by simp [go_sem]
    have q1 := x0.keep p1
    have q2 := x0.keep p2
    have q4 := x0.keep l4
    have s6 := cell_regrown (x0.keep p6)
    have s7 := cell_regrown (x0.keep p7)
    have s0 := cell_regrown a0
    have s1 := cell_regrown a1
    clear p1 p2 p6 p7 l4
    generalize w.alloc (.cells #[.int .u32 c, .int .u32 k] 41) = w0 at *
    generalize w.heap.size = pa at *
    by_cases h1 : K < LO
    · have hd : decide (K < LO) = true := decide_eq_true h1
      refine wp_region_quiet_below (by kernel_rfl) (by kernel_rfl) ?_
      repeat go_big_quiet_step ((with_reducible exact Calls.in_regrown (hk.out _)))
      refine wpQuiet_nil ?_
      intro _ hw'
      obtain ⟨⟨dq, osq⟩, hw''⟩ := hw'
      subst hw''
      go_wp2
      exact bodyPost_ret (v := .tuple #[Vi 0, .bool false]) (by simp [results, Try.results70, go_sem]) rfl ⟨by rw [(ho2.out (.inl h1)).1, (ho2.out (.inl h1)).2], x0.trans (Ext.regrown _ _ _)⟩
    · have hd : decide (K < LO) = false := decide_eq_false h1
      by_cases h2 : HI < K
      · have hd2 : decide (HI < K) = true := decide_eq_true h2
        refine wp_region_quiet_below (by kernel_rfl) (by kernel_rfl) ?_
        repeat go_big_quiet_step ((with_reducible exact Calls.in_regrown (hk.out _)))
        refine wpQuiet_nil ?_
        intro _ hw'
        obtain ⟨⟨dq, osq⟩, hw''⟩ := hw'
        subst hw''
        go_wp2
        exact bodyPost_ret (v := .tuple #[Vi 0, .bool false]) (by simp [results, Try.results70, go_sem]) rfl ⟨by rw [(ho2.out (.inr h2)).1, (ho2.out (.inr h2)).2], x0.trans (Ext.regrown _ _ _)⟩
      · have hd2 : decide (HI < K) = false := decide_eq_false h2
        refine wp_region_quiet_below (by kernel_rfl) (by kernel_rfl) ?_
        repeat go_big_quiet_step ((with_reducible exact Calls.in_regrown (hk.out _)))
        refine wpQuiet_nil ?_
        intro _ hw'
        obtain ⟨⟨dq, osq⟩, hw''⟩ := hw'
        subst hw''
        have x1 := x0.trans (Ext.regrown w0 dq osq)
        have q1 := (Ext.regrown w0 dq osq).keep q1
        have q2 := (Ext.regrown w0 dq osq).keep q2
        have q4 := (Ext.regrown w0 dq osq).keep q4
        have a0 := (Ext.regrown w0 dq osq).keep a0
        have a1 := (Ext.regrown w0 dq osq).keep a1
        clear s0 s1 s6 s7 h1 h2 hd hd2 ho2 hk
        generalize grow (redrawn w0 dq) osq = w1 at *
        clear x0
        have hl := Lib.hid (node_any b p w1 q1)
        go_wp2_with fail
        refine hl.out.mono ?_
        rintro e w1' ⟨rfl, rfl⟩
        have s0 := cell_regrown q1
        have s1 := cell_regrown a0
        have s2 := cell_regrown a1
        go_wp2_with fail
        refine wp_region_quiet_below (by kernel_rfl) (by kernel_rfl) ?_
        repeat go_big_quiet_step ((with_reducible exact Calls.in_regrown (hfa.out _ (x1.trans (Ext.regrown _ _ _)))))
        refine wpQuiet_nil ?_
        intro _ hw'
        obtain ⟨⟨dq, osq⟩, hw''⟩ := hw'
        subst hw''
        have x2 := x1.trans (Ext.regrown w1 dq osq)
        have q1 := (Ext.regrown w1 dq osq).keep q1
        have q2 := (Ext.regrown w1 dq osq).keep q2
        have q4 := (Ext.regrown w1 dq osq).keep q4
        have a0 := (Ext.regrown w1 dq osq).keep a0
        have a1 := (Ext.regrown w1 dq osq).keep a1
        clear s0 s1 s2 hl hfa
        generalize grow (redrawn w1 dq) osq = w2 at *
        clear x1
        cases hBA : BA with
        | true =>
          go_wp2
          exact bodyPost_ret (v := .tuple #[Vi VA, .bool true]) (by simp [results, Try.results70, go_sem]) rfl ⟨by rw [(hL.out hBA).1, (hL.out hBA).2], x2⟩
        | false =>
          have s0 := cell_regrown q2
          have s1 := cell_regrown a0
          have s2 := cell_regrown a1
          go_wp2_with fail
          refine wp_region_quiet_below (by kernel_rfl) (by kernel_rfl) ?_
          repeat go_big_quiet_step ((with_reducible exact Calls.in_regrown (hfb.out _ (x2.trans (Ext.regrown _ _ _)))))
          refine wpQuiet_nil ?_
          intro _ hw'
          obtain ⟨⟨dq, osq⟩, hw''⟩ := hw'
          subst hw''
          have x3 := x2.trans (Ext.regrown w2 dq osq)
          have q1 := (Ext.regrown w2 dq osq).keep q1
          have q4 := (Ext.regrown w2 dq osq).keep q4
          clear s0 s1 s2 hfb
          generalize grow (redrawn w2 dq) osq = w3 at *
          clear x2
          cases hBB : BB with
          | true =>
            have hwz : IntKind.i64.wrap ((na : Int) + VB) = (na : Int) + VB := IntWalk.i64_in _ (by omega)
            go_wp2
            exact bodyPost_ret (v := .tuple #[Vi ((na : Int) + VB), .bool true]) (by simp [results, Try.results70, go_sem]) rfl ⟨by rw [(hR.out hBA hBB).1, (hR.out hBA hBB).2], x3⟩
          | false =>
            go_wp2
            exact bodyPost_ret (v := .tuple #[Vi 0, .bool false]) (by simp [results, Try.results70, go_sem]) rfl ⟨by rw [(hN.out hBA hBB).1, (hN.out hBA hBB).2], x3⟩

set_option maxRecDepth 100000 in
set_option maxHeartbeats 16000000 in
theorem at_any {F : Nat → Prop} : ∀ (t : Tr) (b : Nat) (w : World) (k r : Nat), AtP F w b t → cnt t ≤ 100000 → (shownE (ents t))[k]? = some r →
    Calls Try.prog 94 #[Vp b, Vi (k : Int)] w fun e w' => e = .returned (Vi (r : Int)) ∧ Ext w w' := by
  intro t
  induction t with
  | leaf l =>
    rintro b w k r ⟨_, ch, lf, rt, ⟨p0, p1, p2, p3, p4, p5, p6, p7⟩, rfl, rfl, A, cap, rfl, hcap, hE, _⟩ hb hr
    have hat := Lib.hid (atIn_any A l.length cap l k r w hE rfl hb hr)
    have hl := Lib.hid (leaf_any b w p1)
    clear hE hb hr hcap p2 p3 p4 p5 p6 p7
    go_enter Try.func94, Try.ntmps94
    go_wp2_with fail
    refine hl.out.mono ?_
    rintro e w1 ⟨rfl, rfl⟩
    go_wp2_with fail
    refine hat.out.mono ?_
    rintro e w1 ⟨rfl, rfl⟩
    go_wp2
    go_ret
    exact ⟨rfl, Ext.refl _⟩
  | node ta tb iha ihb =>
    rintro b w k r ⟨_, ch, lf, rt, ⟨p0, p1, p2, p3, p4, p5, p6, p7⟩, hPV⟩ hb hr
    obtain ⟨rfl, p, q, rfl, rfl, hA, hB⟩ := hPV.node
    rw [cnt_node] at hb
    rw [shown_node] at hr
    have hl := Lib.hid (node_any b p w p1)
    have ha := Lib.hid (fun W k r (hx : Ext w W) (h : (shownE (ents ta))[k]? = some r) => iha p W k r (hA.ext hx) (by omega) h)
    have hb' := Lib.hid (fun W k r (hx : Ext w W) (h : (shownE (ents tb))[k]? = some r) => ihb q W k r (hB.ext hx) (by omega) h)
    obtain ⟨_, cha, lfa, rta, ⟨_, _, _, _, l4, l5, _, _⟩, _⟩ := hA
    have hsw := shw_le ta
    have hsb := shw_le tb
    by_cases hk : k < shw ta
    · rw [if_pos hk] at hr
      have hc := Lib.hid (fun W (hx : Ext w W) => ha.out W k r hx hr)
      have hd : decide ((k : Int) < (shw ta : Int)) = true := by rw [decide_eq_true_eq]; omega
      clear ha hb' iha ihb hPV hB hr p3 p4 p5 p6 p7 p0
      go_enter Try.func94, Try.ntmps94
      go_wp2_with fail
      refine hl.out.mono ?_
      rintro e w1 ⟨rfl, rfl⟩
      go_wp2_with fail
      refine (hc.out _ (Ext.refl _)).mono ?_
      rintro e w2 ⟨rfl, x2⟩
      go_wp2
      go_ret
      exact ⟨rfl, x2⟩
    · rw [if_neg hk] at hr
      obtain ⟨r', hr', rfl⟩ : ∃ r', (shownE (ents tb))[k - shw ta]? = some r' ∧ cnt ta + r' = r := by
        cases h : (shownE (ents tb))[k - shw ta]? with
        | none => rw [h] at hr; cases hr
        | some r' => rw [h] at hr; exact ⟨r', rfl, by simpa using hr⟩
      have hlt : r' < cnt tb := by
        have := shown_lt (ents tb) 0 r' (List.mem_of_getElem? hr')
        unfold cnt
        omega
      have hkb : k - shw ta < 100000 := by
        have := (List.getElem?_eq_some_iff.1 hr').1
        have h2 := shown_len (ents tb) 0
        unfold shownE at this
        unfold cnt at hb
        omega
      have hc := Lib.hid (fun W (hx : Ext w W) => hb'.out W _ r' hx hr')
      have hd : decide ((k : Int) < (shw ta : Int)) = false := by rw [decide_eq_false_iff_not]; omega
      have hsub : IntKind.i64.wrap ((k : Int) - (shw ta : Int)) = ((k - shw ta : Nat) : Int) := by rw [show ((k : Int) - (shw ta : Int)) = ((k - shw ta : Nat) : Int) by omega]; exact IntWalk.i64_in _ (by omega)
      have hadd := Lib.hid (show IntKind.i64.wrap ((cnt ta : Int) + (r' : Int)) = ((cnt ta + r' : Nat) : Int) by rw [show ((cnt ta : Int) + (r' : Int)) = ((cnt ta + r' : Nat) : Int) by omega]; exact IntWalk.i64_in _ (by omega))
      have s1 := cell_regrown p1
      have s2 := cell_regrown p2
      have s4 := cell_regrown l4
      have s5 := cell_regrown l5
      clear ha hb' iha ihb hPV hB hr hr' p3 p4 p5 p6 p7 p0
      generalize k - shw ta = kk at *
      go_enter Try.func94, Try.ntmps94
      go_wp2_with fail
      refine hl.out.mono ?_
      rintro e w1 ⟨rfl, rfl⟩
      go_wp2_with fail
      refine wp_region_quiet_below (by kernel_rfl) (by kernel_rfl) ?_
      repeat go_big_quiet_step ((with_reducible exact Calls.in_regrown (hc.out _ (Ext.regrown _ _ _))))
      refine wpQuiet_nil ?_
      intro _ hw'
      obtain ⟨⟨dq, osq⟩, hw''⟩ := hw'
      subst hw''
      go_wp2
      go_ret
      exact ⟨ret_i64 (by omega), Ext.regrown _ _ _⟩

theorem drewN_add (w : World) (n m : Nat) : (w.drewN n).drewN m = w.drewN (n + m) := by
  unfold World.drewN
  simp [Nat.add_assoc]
def EntRel (F : Nat → Prop) (x : En) (w : World) (g : Nat) (v i : Value) (W : World) : Prop := ∃ (t : Tr) (b q n : Nat), v = Vp b ∧ i = Vi q ∧ AtP F w b t ∧ cnt t ≤ 100000 ∧ (ents t)[q]? = some x ∧ htT t ≤ g ∧
  W = (w.alloc (.cells #[.int .u32 0, .int .u32 0, .int .i32 0, .bool false] 79)).drewN n
set_option maxRecDepth 100000 in
set_option maxHeartbeats 16000000 in
theorem entry_any {F : Nat → Prop} (t : Tr) (b : Nat) (w : World) (q : Nat) (x : En) (hA : AtP F w b t) (hb : cnt t ≤ 100000) (hx : (ents t)[q]? = some x) :
    Calls Try.prog 93 #[Vp b, Vi (q : Int)] w fun e w' => e = .returned (env x) ∧ Ext w w' := by
  have h0 : EntRel F x w (htT t) (Vp b) (Vi q) (w.alloc (.cells #[.int .u32 0, .int .u32 0, .int .i32 0, .bool false] 79)) := ⟨t, b, q, 0, rfl, rfl, hA, hb, hx, Nat.le_refl _, rfl⟩
  generalize htT t = g0 at h0
  clear hA hb hx t
  go_enter Try.func93, Try.ntmps93
  go_wp2_with fail
  go_loopg [0, 1] g0 (EntRel F x w)
  case atStart => exact h0
  case round =>
    clear h0
    obtain ⟨t, b, q, n, rfl, rfl, hA, hb, hx, hg, rfl⟩ := hrel
    have hx0 : Ext w ((w.alloc (.cells #[.int .u32 0, .int .u32 0, .int .i32 0, .bool false] 79)).drewN n) := ((Ext.refl _).alloc _).drewN _
    cases t with
    | leaf l =>
      obtain ⟨_, ch, lf, rt, ⟨p0, p1, p2, p3, p4, p5, p6, p7⟩, rfl, rfl, A, cap, rfl, hcap, hE, _⟩ := hA
      have hx : l[q]? = some x := hx
      have hq : q < l.length := (List.getElem?_eq_some_iff.1 hx).1
      have hb : l.length ≤ 100000 := hb
      obtain ⟨bb, o, x', rfl, hp, d⟩ := (hE.ext hx0).at (k := q) hq
      rw [hx] at hp
      injection hp with hp
      subst hp
      obtain ⟨c0, c1, c2, c3⟩ := d
      have hi1 : (0 : Int) ≤ (q : Int) := by omega
      have hi2 : (q : Int) < (l.length : Int) := by omega
      have p0 := hx0.keep p0
      have p1 := hx0.keep p1
      have hl := Lib.hid (leaf_any b _ p1)
      clear p2 p3 p4 p5 p6 p7 hE
      go_wp2_with fail
      refine hl.out.mono ?_
      rintro e w1 ⟨rfl, rfl⟩
      go_wp2
      exact bodyPost_ret (v := env x) (by simp [results, Try.results93, go_sem]) rfl ⟨rfl, (((hx0.setCell (by show w.heap.size ≤ w.heap.size; omega) _).setCell (by show w.heap.size ≤ w.heap.size; omega) _).setCell (by show w.heap.size ≤ w.heap.size; omega) _).setCell (by show w.heap.size ≤ w.heap.size; omega) _⟩
    | node ta tb =>
      obtain ⟨_, ch, lf, rt, ⟨p0, p1, p2, p3, p4, p5, p6, p7⟩, hPV⟩ := hA
      obtain ⟨rfl, pl, pr, rfl, rfl, hA, hB⟩ := hPV.node
      rw [cnt_node] at hb
      have hA' := Lib.hid hA
      have hB' := Lib.hid hB
      obtain ⟨_, cha, lfa, rta, ⟨_, _, _, _, l4, _, _, _⟩, _⟩ := hA
      have p1 := hx0.keep p1
      have p2 := hx0.keep p2
      have l4 := hx0.keep l4
      have hl := Lib.hid (node_any b pl _ p1)
      have hgm : max (htT ta) (htT tb) + 1 ≤ gk := hg
      clear p0 p3 p4 p5 p6 p7 hPV hB hg
      by_cases hq : q < cnt ta
      · have hd : decide ((q : Int) < (cnt ta : Int)) = true := by rw [decide_eq_true_eq]; omega
        have hxl := Lib.hid (show (ents ta)[q]? = some x by rw [← hx]; exact (List.getElem?_append_left hq).symm)
        clear hx
        go_wp2_with fail
        refine hl.out.mono ?_
        rintro e w1 ⟨rfl, rfl⟩
        go_wp2
        go_roundg (htT ta)
        case measure => omega
        case rel => exact ⟨ta, pl, q, n, rfl, rfl, hA'.out, by omega, hxl.out, Nat.le_refl _, rfl⟩
      · have hd : decide ((q : Int) < (cnt ta : Int)) = false := by rw [decide_eq_false_iff_not]; omega
        have hxr := Lib.hid (show (ents tb)[q - cnt ta]? = some x by rw [← hx]; exact (List.getElem?_append_right (by unfold cnt at hq; omega)).symm)
        have hqb : q - cnt ta < cnt tb := (List.getElem?_eq_some_iff.1 hxr.out).1
        have hsub : IntKind.i64.wrap ((q : Int) - (cnt ta : Int)) = ((q - cnt ta : Nat) : Int) := by rw [show ((q : Int) - (cnt ta : Int)) = ((q - cnt ta : Nat) : Int) by omega]; exact IntWalk.i64_in _ (by omega)
        clear hx
        go_wp2_with fail
        refine hl.out.mono ?_
        rintro e w1 ⟨rfl, rfl⟩
        go_wp2
        go_quiet (fail)
        go_wp2
        go_roundg (htT tb)
        case measure => omega
        case rel => exact ⟨tb, pr, q - cnt ta, _, rfl, by go_num, hB'.out, by omega, hxr.out, Nat.le_refl _, drewN_add _ _ _⟩

end Go.Proofs.Ytmpomammieenjaa

namespace Go.Proofs.Ytmpomammieenjaa
open Go.ChangeShapes Go.WideShapes Go.ChangeAt Go.RowKit Go.Sort
set_option linter.unusedVariables false
set_option linter.unusedSimpArgs false

def SoftMonoQ (Rel : World → World → Prop) (k0 : Nat) (tab : SoftTab) : Prop :=
  (∀ (k d : Nat) (R : Told), tab[k]? = some (d, R) → ∀ (v : Value) (W W' : World), R v W → Ext W W' → R v W') ∧
  (∀ (k d : Nat) (R : Told), tab[k]? = some (d, R) → k ≠ k0 → ∀ (v : Value) (W W' : World), R v W → Rel W W' → R v W')

theorem wpAny_softQ {Rel : World → World → Prop} {k0 : Nat} {Pre Post : World → Prop} {P : Program} {ops : Array Oper} {n : Nat} {tab : SoftTab} {Q : Exit → Act → World → Prop} {a0 : Act} {w : World} {rest : List Oper}
    (htrans : ∀ a b c, Rel a b → Rel b c → Rel a c)
    (hlen : tab.length = n) (hnd : (tab.map (·.1)).Nodup) (hsz : ∀ d ∈ tab.map (·.1), d < a0.tmps.size)
    (hn : n < ops.size) (hs : Region.sinkB .any ops n = true) (hc : Region.chainB .any ops n = true)
    (hback : ∀ (k : Nat) (o : Oper), k < n → ops[k]? = some o → ∀ e ∈ o.after.toList, Region.binds .any e = true → e.on < k)
    (hmono : SoftMonoQ Rel k0 tab)
    (hsub : ∀ a b, Ext a b → Rel a b) (hpre : ∀ a b, Ext a b → Pre a → Pre b) (hpost : ∀ a b, Ext a b → Post a → Post b) (hk0 : k0 < n)
    (hstep : ∀ (k : Nat) (o : Oper), k < n → k ≠ k0 → ops[k]? = some o → SoftStepP Rel P ops tab Q a0 w k o) (hcall : ∀ o, ops[k0]? = some o → SoftStepC Rel Pre Post P ops tab Q a0 w k0 o)
    (hrest : ∀ j, rest[j]? = ops[n + j]?) (hrl : rest.length = ops.size - n) (hseq : Region.seqB .any ops rest.length n (doneTo n ops.size) = true)
    (hend : ∀ a W, SoftAtP Rel k0 Pre Post tab a0 a w W (doneTo n ops.size) → wpList P ops Q rest a W) :
    ∀ (f : Nat) (listed : Array Bool) (a : Act) (W : World), HeadInv .any ops n listed → (listed.toList.take n).count false = f → SoftAtP Rel k0 Pre Post tab a0 a w W listed → wpAny P .any ops Q (f + rest.length) listed a W := by
  intro f
  induction f with
  | zero =>
    intro listed a W inv hcnt hI
    have e : listed = doneTo n ops.size := by
      apply Array.ext
      · rw [inv.size]; simp [doneTo]; omega
      · intro i h1 h2
        rcases Nat.lt_or_ge i n with h | h
        · have hm : listed[i] ∈ listed.toList.take n := by
            rw [List.mem_take_iff_getElem]
            exact ⟨i, by simp; omega, by simp⟩
          have hne : listed[i] ≠ false := fun e => by
            rw [e] at hm
            have := List.count_pos_iff.2 hm
            omega
          have : listed[i] = true := by simpa using hne
          rw [this]
          simp [doneTo, h]
        · have := inv.tail i h (by rw [← inv.size]; exact h1)
          have h3 : listed[i] = false := by simpa [Array.getD, h1] using this
          rw [h3]
          simp [doneTo, List.getElem_append, Nat.not_lt.2 h]
    subst e
    rw [Nat.zero_add]
    exact wpAny_of_seq (md := .any) rest n _ a W hrest hseq (hend a W hI)
  | succ f ih =>
    intro listed a W inv hcnt hI
    have hex : ∃ i, i < n ∧ listed.getD i true = false := by
      have hm : false ∈ listed.toList.take n := List.count_pos_iff.1 (by omega)
      rw [List.mem_take_iff_getElem] at hm
      obtain ⟨i, h1, h2⟩ := hm
      have h1' : i < n ∧ i < listed.size := by simp at h1; omega
      refine ⟨i, h1'.1, ?_⟩
      simp [Array.getD, h1'.2]
      simpa using h2
    obtain ⟨i0, hi0, hun0⟩ := hex
    rw [show f + 1 + rest.length = (f + rest.length) + 1 by omega]
    refine ⟨fun hr => ?_, fun i hi => ?_⟩
    · exfalso
      have key : ∀ k, k < n → listed.getD k false = true := by
        intro k
        induction k using Nat.strongRecOn with
        | ind k ihk =>
          intro hk
          rcases hb : listed.getD k false with _ | _
          · exfalso
            have hk' : k < listed.size := by rw [inv.size]; omega
            have hk2 : k < ops.size := by omega
            have hm : k ∈ Region.ready .any ops listed := by
              rw [mem_ready]
              refine ⟨getD_in hk' hb, ops[k], by simp [hk2], fun e he hb' => ?_⟩
              have hlt := hback k ops[k] hk (by simp [hk2]) e (by simpa using he) hb'
              exact ihk e.on hlt (by omega)
            rw [hr] at hm
            cases hm
          · rfl
      have h9 := key i0 hi0
      rw [getD_both hun0] at h9
      cases h9
    · have hin : i < n := by
        rcases Nat.lt_or_ge i n with h | h
        · exact h
        · exact absurd hi (tail_waits hs hc hn inv _ i0 rfl hi0 hun0 i h)
      obtain ⟨h1, o, ho, hdep⟩ := mem_ready.1 hi
      obtain ⟨⟨d, R⟩, htab⟩ : ∃ p, tab[i]? = some p := ⟨tab[i], List.getElem?_eq_getElem (by omega)⟩
      have hdsz : d < a.tmps.size := by rw [hI.size]; exact hsz d (List.mem_map.2 ⟨(d, R), List.mem_of_getElem? htab, rfl⟩)
      have hdeps : ∀ e ∈ o.after.toList, Region.binds .any e = true → ∀ (d' : Nat) (R' : Told), tab[e.on]? = some (d', R') → R' (a.tmps.getD d' undef) W ∧ d' < a.tmps.size := fun e he hb d' R' ht' =>
        ⟨hI.told e.on d' R' ht' (hdep e (by simpa using he) hb), by rw [hI.size]; exact hsz d' (List.mem_map.2 ⟨(d', R'), List.mem_of_getElem? ht', rfl⟩)⟩
      have hst : wpOp P ops Q i (fun a' W' => ∃ v, a' = a.put (some d) v ∧ R v W' ∧ Rel W W' ∧ (i ≠ k0 → Ext W W') ∧ ((listed.setIfInBounds i true).getD k0 false = true → Post W') ∧ ((listed.setIfInBounds i true).getD k0 false = false → Pre W')) a W := by
        by_cases hik : i = k0
        · subst hik
          have hf : listed.getD i false = false := getD_both h1
          refine wpOp_mono (fun a' W' hh => ?_) (hcall o ho a W hI.rel (hI.phase.2 hf) (fun t ht => by simp only [Array.getD_eq_getD_getElem?, hI.out t ht]) hdeps d R htab)
          obtain ⟨v, e1, e2, e3, e4⟩ := hh
          have hil' : i < listed.size := by rw [inv.size]; omega
          exact ⟨v, e1, e2, e3, fun hne => absurd rfl hne, fun _ => e4, fun hh => by simp [hil'] at hh⟩
        · refine wpOp_mono (fun a' W' hh => ?_) (hstep i o hin hik ho a W hI.rel (fun t ht => by simp only [Array.getD_eq_getD_getElem?, hI.out t ht]) hdeps d R htab)
          obtain ⟨v, e1, e2, e3⟩ := hh
          refine ⟨v, e1, e2, hsub _ _ e3, fun _ => e3, fun hh => hpost _ _ e3 (hI.phase.1 ?_), fun hh => hpre _ _ e3 (hI.phase.2 ?_)⟩
          · rw [getD_set_ne false hik] at hh; exact hh
          · rw [getD_set_ne false hik] at hh; exact hh
      refine wpOp_mono (fun a' W' hh => ?_) hst
      obtain ⟨v, rfl, hR, hx, hxe, hph⟩ := hh
      have hil' : i < listed.size := by rw [inv.size]; omega
      refine ih _ _ _ (inv.set hi hin) ?_ ⟨htrans _ _ _ hI.rel hx, hph, hI.defers, by simp only [Act.put, Array.size_setIfInBounds]; exact hI.size, ?_, ?_⟩
      · have e : (listed.toList.take n)[i]? = some false := by
          have h3 : listed[i] = false := by simpa [Array.getD, hil'] using h1
          rw [List.getElem?_take, if_pos hin]
          simp [hil', h3]
        have := count_set (listed.toList.take n) i e
        rw [Array.toList_setIfInBounds, List.take_set]
        omega
      · intro t ht
        have hne : d ≠ t := fun e => ht (e ▸ List.mem_map.2 ⟨(d, R), List.mem_of_getElem? htab, rfl⟩)
        simp only [Act.put]
        rw [Array.getElem?_setIfInBounds_ne hne]
        exact hI.out t ht
      · intro k d2 R2 ht2 hl2
        simp only [Act.put]
        by_cases hki : k = i
        · subst hki
          obtain ⟨rfl, rfl⟩ : d = d2 ∧ R = R2 := by rw [htab] at ht2; injection ht2 with e; injection e with e1 e2; exact ⟨e1, e2⟩
          simp [hdsz]
          exact hR
        · have hne : d ≠ d2 := tab_ne hnd htab ht2 (fun e => hki e.symm)
          have h3 : listed.getD k false = true := by rw [getD_set_ne false (fun e => hki e.symm)] at hl2; exact hl2
          have : R2 (a.tmps.getD d2 undef) W' := by
            by_cases hik : i = k0
            · exact hmono.2 k d2 R2 ht2 (fun e => hki (e.trans hik.symm)) _ _ _ (hI.told k d2 R2 ht2 h3) hx
            · exact hmono.1 k d2 R2 ht2 _ _ _ (hI.told k d2 R2 ht2 h3) (hxe hik)
          simp only [Array.getD_eq_getD_getElem?, Array.getElem?_setIfInBounds_ne hne]
          simp only [Array.getD_eq_getD_getElem?] at this
          exact this

theorem wp_soft_tailQ (Rel : World → World → Prop) (k0 : Nat) (Pre Post : World → Prop) {P : Program} {l : List Oper} (n : Nat) (tab : SoftTab) {Q : Exit → Act → World → Prop} {a : Act} {w : World} {id : Nat} (hm : P.follows .mixedOrders = true)
    (hform : softForm n l = true) (htrans : ∀ a b c, Rel a b → Rel b c → Rel a c) (hsub : ∀ a b, Ext a b → Rel a b) (hpre : ∀ a b, Ext a b → Pre a → Pre b) (hpost : ∀ a b, Ext a b → Post a → Post b) (hk0 : k0 < n) (hw : Pre w)
    (hlen : tab.length = n) (hnd : (tab.map (·.1)).Nodup) (hsz : ∀ d ∈ tab.map (·.1), d < a.tmps.size) (hmono : SoftMonoQ Rel k0 tab)
    (hend : ∀ a' W, SoftAtP Rel k0 Pre Post tab a a' w W (doneTo n l.length) → wpList P l.toArray Q (l.drop n) a' W)
    (hstep : SoftAllP Rel k0 Pre Post P l.toArray tab Q a w (l.take n) 0) : (Code.region id l.toArray true).wp P Q a w := by
  unfold softForm at hform
  simp only [Bool.and_eq_true, decide_eq_true_eq] at hform
  obtain ⟨⟨⟨⟨hn, hs⟩, hc⟩, hb⟩, hq⟩ := hform
  have hdl : (l.drop n).length = l.length - n := by simp
  have inv0 : HeadInv .any l.toArray n (Array.replicate l.toArray.size false) :=
    ⟨by simp, fun j oj _ hl => (by rw [getD_replicate_false] at hl; cases hl), fun t _ ht => getD_in (by simpa using ht) (getD_replicate_false _ _)⟩
  refine wp_region_any hm ?_
  have := wpAny_softQ (Rel := Rel) (k0 := k0) (Pre := Pre) (Post := Post) (P := P) (ops := l.toArray) (n := n) (tab := tab) (Q := Q) (a0 := a) (w := w) (rest := l.drop n) htrans hlen hnd hsz (by simpa using hn) hs hc
    (fun k o hk ho => softBackN_spec hb k o hk (by simpa using ho)) hmono
    hsub hpre hpost hk0
    (fun k o hk hne ho => by
      have := softAllP_spec (l.take n) 0 hstep k o (by rw [List.getElem?_take, if_pos hk]; simpa using ho)
      rw [Nat.zero_add, if_neg hne] at this
      exact this)
    (fun o ho => by
      have := softAllP_spec (l.take n) 0 hstep k0 o (by rw [List.getElem?_take, if_pos hk0]; simpa using ho)
      rw [Nat.zero_add, if_pos rfl] at this
      exact this)
    (fun j => by simp [List.getElem?_drop]) (by simp) (by rw [hdl]; simpa using hq) (fun a' W h => hend a' W (by simpa using h)) n (Array.replicate l.toArray.size false) a { w with drawn := w.drawn + 1 } inv0
    (by
      simp
      omega) ⟨hsub _ _ ((Ext.refl w).drew), ⟨fun hh => (by rw [getD_replicate_false] at hh; cases hh), fun _ => hpre _ _ ((Ext.refl w).drew) hw⟩, rfl, rfl, fun _ _ => rfl, fun k d R h1 h2 => by rw [getD_replicate_false] at h2; cases h2⟩
  rw [hdl] at this
  have e : n + (l.length - n) = l.toArray.size := by simp; omega
  rw [e] at this
  exact this

theorem wp_soft_frameQ (Rel : World → World → Prop) (k0 : Nat) (Pre Post : World → Prop) {P : Program} {l : List Oper} (n : Nat) (tab : SoftTab) {Q : Exit → Act → World → Prop} {a : Act} {w : World} {id : Nat} (hm : P.follows .mixedOrders = true)
    (hform : softForm n l = true) (htrans : ∀ a b c, Rel a b → Rel b c → Rel a c) (hsub : ∀ a b, Ext a b → Rel a b) (hpre : ∀ a b, Ext a b → Pre a → Pre b) (hpost : ∀ a b, Ext a b → Post a → Post b) (hk0 : k0 < n) (hw : Pre w)
    (hlen : tab.length = n) (hnd : (tab.map (·.1)).Nodup) (hsz : ∀ d ∈ tab.map (·.1), d < a.tmps.size) (hmono : SoftMonoQ Rel k0 tab)
    (hend : ∀ (W : World) (vs : List Value), ToldAll tab vs W → Rel w W → Post W → wpList P l.toArray Q (l.drop n) ⟨putAll a.tmps ((tab.map (·.1)).zip vs), a.defers⟩ W)
    (hstep : SoftAllP Rel k0 Pre Post P l.toArray tab Q a w (l.take n) 0) : (Code.region id l.toArray true).wp P Q a w := by
  refine wp_soft_tailQ Rel k0 Pre Post n tab hm hform htrans hsub hpre hpost hk0 hw hlen hnd hsz hmono (fun a' W hS => ?_) hstep
  have h1 := hend W (tab.map fun p => a'.tmps.getD p.1 undef) (toldAll_of (f := fun d => a'.tmps.getD d undef) tab fun k d R hk => hS.told k d R hk (by
    have hk' : k < n := by have := (List.getElem?_eq_some_iff.1 hk).1; omega
    simp [doneTo, hk', List.getElem?_append])) hS.rel (hS.phase.1 (by simp [doneTo, hk0, List.getElem?_append]))
  rw [zip_told (fun d => a'.tmps.getD d undef), ← putAll_of a'.tmps _ a.tmps hS.size hS.out, ← hS.defers] at h1
  exact h1

end Go.Proofs.Ytmpomammieenjaa

namespace Go.Proofs.Ytmpomammieenjaa
open Go.ChangeShapes Go.WideShapes Go.ChangeAt Go.RowKit Go.Sort
set_option linter.unusedVariables false
set_option linter.unusedSimpArgs false
attribute [local go_sem] World.cell?_alloc_some

def ARel (w0 : World) (a b : World) : Prop := Ext w0 a → Ext w0 b
def adTab (w0 : World) (b p q : Nat) (v : Value) (L : List En) : SoftTab := [(13, fun z9 W => z9 = .pointer (some ⟨b, 0, none⟩)),
  (14, fun z9 W => z9 = .pointer (some ⟨b, 0, none⟩)),
  (15, fun z9 W => z9 = .pointer (some ⟨b, 2, none⟩)),
  (16, fun z9 W => z9 = .pointer (some ⟨q, 0, none⟩)),
  (17, fun z9 W => z9 = .pointer (some ⟨b, 0, none⟩)),
  (18, fun z9 W => z9 = .pointer (some ⟨b, 0, none⟩)),
  (19, fun z9 W => z9 = .pointer (some ⟨b, 1, none⟩)),
  (20, fun z9 W => z9 = .pointer (some ⟨p, 0, none⟩)),
  (21, fun z9 W => z9 = v),
  (22, fun z9 W => OwnE w0 W z9 L)]
theorem adTab_mono (w0 : World) (b p q : Nat) (v : Value) (L : List En) : SoftMonoQ (ARel w0) 9 (adTab w0 b p q v L) := by
  constructor
  · intro k d R hk v' W W' h hx
    have hp := List.mem_of_getElem? hk
    simp only [adTab, List.mem_cons, Prod.mk.injEq, List.not_mem_nil, or_false] at hp
    rcases hp with ⟨_, rfl⟩ | ⟨_, rfl⟩ | ⟨_, rfl⟩ | ⟨_, rfl⟩ | ⟨_, rfl⟩ | ⟨_, rfl⟩ | ⟨_, rfl⟩ | ⟨_, rfl⟩ | ⟨_, rfl⟩ | ⟨_, rfl⟩
    all_goals first
      | exact h
      | exact OwnE.ext h hx
  · intro k d R hk hne v' W W' h hx
    have hk10 : k < 10 := (List.getElem?_eq_some_iff.1 hk).1
    have h9 : k = 0 ∨ k = 1 ∨ k = 2 ∨ k = 3 ∨ k = 4 ∨ k = 5 ∨ k = 6 ∨ k = 7 ∨ k = 8 := by omega
    rcases h9 with rfl | rfl | rfl | rfl | rfl | rfl | rfl | rfl | rfl
    all_goals
      simp only [adTab, List.getElem?_cons_succ, List.getElem?_cons_zero, Option.some.injEq, Prod.mk.injEq] at hk
      obtain ⟨_, rfl⟩ := hk
      exact h

set_option maxRecDepth 100000 in
set_option maxHeartbeats 16000000 in
theorem addTo_any {F : Nat → Prop} {w0 : World} : ∀ (t : Tr) (b : Nat) (w : World) (v : Value) (l0 : List En), AtP F w0 b t → Ext w0 w → OwnE w0 w v l0 → l0.length + cnt t ≤ 100000 →
    Calls Try.prog 48 #[Vp b, v] w fun e w' => ∃ v', e = .returned v' ∧ OwnE w0 w' v' (l0 ++ ents t) ∧ Ext w0 w' := by
  intro t
  induction t with
  | leaf l =>
    rintro b w v l0 ⟨_, ch, lf, rt, ⟨p0, p1, p2, p3, p4, p5, p6, p7⟩, rfl, rfl, A, cap, rfl, hcap, hE, _⟩ hx ho hb
    have hl := Lib.hid (leaf_any b w (hx.keep p1))
    have hE' := hE.ext hx
    have p0 := hx.keep p0
    have hb : l0.length + l.length ≤ 100000 := hb
    clear p1 p2 p3 p4 p5 p6 p7 hE
    go_enter Try.func48, Try.ntmps48
    go_wp2_with fail
    refine hl.out.mono ?_
    rintro e w1 ⟨rfl, rfl⟩
    go_wp2_with (at_builtin; refine wpList_append_E (w0 := w0) rfl (.tmp 7) (.tmp 11) rfl v l0 rfl ho hx A l.length cap l rfl rfl hE' hb ?_)
    intro v3 w3 o3 x3 _ _
    go_wp2
    go_ret
    exact ⟨v3, rfl, o3, x3⟩
  | node ta tb iha ihb =>
    rintro b w v l0 ⟨_, ch, lf, rt, ⟨p0, p1, p2, p3, p4, p5, p6, p7⟩, hPV⟩ hE0 ho hb
    obtain ⟨rfl, p, q, rfl, rfl, hA, hB⟩ := hPV.node
    rw [cnt_node] at hb
    have hl := Lib.hid (node_any b p w (hE0.keep p1))
    have hca := Lib.hid (fun W (hx : Ext w0 W) (h : OwnE w0 W v l0) => iha p W v l0 hA hx h (by omega))
    have hlen : (l0 ++ ents ta).length + cnt tb ≤ 100000 := by
      rw [List.length_append]
      unfold cnt at *
      omega
    have hcb := Lib.hid (fun W v' (hx : Ext w0 W) (h : OwnE w0 W v' (l0 ++ ents ta)) => ihb q W v' (l0 ++ ents ta) hB hx h hlen)
    have hR : ents (.node ta tb) = ents ta ++ ents tb := rfl
    rw [hR, ← List.append_assoc]
    generalize l0 ++ ents ta = L at *
    generalize L ++ ents tb = M at *
    clear p0 p3 p4 p5 p6 p7 iha ihb hA hB hPV hb hlen hR
    go_enter Try.func48, Try.ntmps48
    go_wp2_with fail
    refine hl.out.mono ?_
    rintro e w1 ⟨rfl, rfl⟩
    go_wp2_with fail
    refine wp_soft_frameQ (ARel w0) 9 (fun W => OwnE w0 W v l0) (fun _ => True) 10 (adTab w0 b p q v L) (by kernel_rfl) (by kernel_rfl) (fun _ _ _ h k hh => k (h hh)) (fun _ _ h hh => hh.trans h) (fun _ _ h hh => hh.ext h) (fun _ _ _ h => h) (by omega) ho rfl (by show List.Nodup [13, 14, 15, 16, 17, 18, 19, 20, 21, 22]; decide) (by show ∀ d ∈ [13, 14, 15, 16, 17, 18, 19, 20, 21, 22], d < 24; decide) (adTab_mono w0 b p q v L) ?_ ⟨?_, ?_, ?_, ?_, ?_, ?_, ?_, ?_, ?_, ?_, trivial⟩
    · intro W vs hT hR _
      match vs, hT with
      | [v0, v1, v2, v3, v4, v5, v6, v7, v8, v9], ⟨e0, e1, e2, e3, e4, e5, e6, e7, e8, e9, _⟩ =>
        simp only [adTab, List.map_cons, List.map_nil, List.zip_cons_cons, List.zip_nil_left, putAll, List.setIfInBounds_toArray, List.set_cons_zero, List.set_cons_succ, List.drop_succ_cons, List.drop_zero]
        simp only at e0 e1 e2 e3 e4 e5 e6 e7 e8
        have q9 : OwnE w0 W v9 L := e9
        rw [e0, e1, e2, e3, e4, e5, e6, e7, e8]
        clear e0 e1 e2 e3 e4 e5 e6 e7 e8 e9 v0 v1 v2 v3 v4 v5 v6 v7 v8
        have hE := hR hE0
        go_wp2_with fail
        refine (hcb.out _ _ hE q9).mono ?_
        rintro e w4 ⟨v4, rfl, o4, x4⟩
        go_wp2
        go_ret
        exact ⟨v4, rfl, o4, x4⟩
    · refine softP_val 13 _ (by kernel_rfl) rfl rfl ?_
      intro a W hx hout hdep
      have ev0 : a.tmps[0]?.getD undef = .pointer (some ⟨b, 0, none⟩) := by rw [← Array.getD_eq_getD_getElem?]; exact hout 0 (by show 0 ∉ [13, 14, 15, 16, 17, 18, 19, 20, 21, 22]; decide)
      refine ⟨rfl, .pointer (some ⟨b, 0, none⟩), W, ?_, rfl, Ext.refl _⟩
      simp [ev0, execOp, go_sem]
    · refine softP_val 14 _ (by kernel_rfl) rfl rfl ?_
      intro a W hx hout hdep
      have ev13 : a.tmps[13]?.getD undef = .pointer (some ⟨b, 0, none⟩) := by rw [← Array.getD_eq_getD_getElem?]; exact (hdep ⟨0, .data⟩ (by simp) rfl 13 _ rfl).1
      refine ⟨rfl, .pointer (some ⟨b, 0, none⟩), W, ?_, rfl, Ext.refl _⟩
      simp [ev13, execOp, go_sem]
    · refine softP_val 15 _ (by kernel_rfl) rfl rfl ?_
      intro a W hx hout hdep
      have ev14 : a.tmps[14]?.getD undef = .pointer (some ⟨b, 0, none⟩) := by rw [← Array.getD_eq_getD_getElem?]; exact (hdep ⟨1, .data⟩ (by simp) rfl 14 _ rfl).1
      refine ⟨rfl, .pointer (some ⟨b, 2, none⟩), W, ?_, rfl, Ext.refl _⟩
      simp [ev14, execOp, go_sem]
    · refine softP_val 16 _ (by kernel_rfl) rfl rfl ?_
      intro a W hx hout hdep
      have ev15 : a.tmps[15]?.getD undef = .pointer (some ⟨b, 2, none⟩) := by rw [← Array.getD_eq_getD_getElem?]; exact (hdep ⟨2, .data⟩ (by simp) rfl 15 _ rfl).1
      have hE := hx hE0
      have q0 := hE.keep p2
      refine ⟨rfl, .pointer (some ⟨q, 0, none⟩), W, ?_, rfl, Ext.refl _⟩
      simp [ev15, q0, execOp, go_sem]
    · refine softP_val 17 _ (by kernel_rfl) rfl rfl ?_
      intro a W hx hout hdep
      have ev0 : a.tmps[0]?.getD undef = .pointer (some ⟨b, 0, none⟩) := by rw [← Array.getD_eq_getD_getElem?]; exact hout 0 (by show 0 ∉ [13, 14, 15, 16, 17, 18, 19, 20, 21, 22]; decide)
      refine ⟨rfl, .pointer (some ⟨b, 0, none⟩), W, ?_, rfl, Ext.refl _⟩
      simp [ev0, execOp, go_sem]
    · refine softP_val 18 _ (by kernel_rfl) rfl rfl ?_
      intro a W hx hout hdep
      have ev17 : a.tmps[17]?.getD undef = .pointer (some ⟨b, 0, none⟩) := by rw [← Array.getD_eq_getD_getElem?]; exact (hdep ⟨4, .data⟩ (by simp) rfl 17 _ rfl).1
      refine ⟨rfl, .pointer (some ⟨b, 0, none⟩), W, ?_, rfl, Ext.refl _⟩
      simp [ev17, execOp, go_sem]
    · refine softP_val 19 _ (by kernel_rfl) rfl rfl ?_
      intro a W hx hout hdep
      have ev18 : a.tmps[18]?.getD undef = .pointer (some ⟨b, 0, none⟩) := by rw [← Array.getD_eq_getD_getElem?]; exact (hdep ⟨5, .data⟩ (by simp) rfl 18 _ rfl).1
      refine ⟨rfl, .pointer (some ⟨b, 1, none⟩), W, ?_, rfl, Ext.refl _⟩
      simp [ev18, execOp, go_sem]
    · refine softP_val 20 _ (by kernel_rfl) rfl rfl ?_
      intro a W hx hout hdep
      have ev19 : a.tmps[19]?.getD undef = .pointer (some ⟨b, 1, none⟩) := by rw [← Array.getD_eq_getD_getElem?]; exact (hdep ⟨6, .data⟩ (by simp) rfl 19 _ rfl).1
      have hE := hx hE0
      have q0 := hE.keep p1
      refine ⟨rfl, .pointer (some ⟨p, 0, none⟩), W, ?_, rfl, Ext.refl _⟩
      simp [ev19, q0, execOp, go_sem]
    · refine softP_val 21 _ (by kernel_rfl) rfl rfl ?_
      intro a W hx hout hdep
      have ev1 : a.tmps[1]?.getD undef = v := by rw [← Array.getD_eq_getD_getElem?]; exact hout 1 (by show 1 ∉ [13, 14, 15, 16, 17, 18, 19, 20, 21, 22]; decide)
      refine ⟨rfl, v, W, ?_, rfl, Ext.refl _⟩
      simp [ev1, execOp, go_sem]
    · refine softC_call 22 _ (by kernel_rfl) rfl rfl ?_
      intro a W hx hpre hout hdep
      have ev20 : a.tmps[20]?.getD undef = .pointer (some ⟨p, 0, none⟩) := by rw [← Array.getD_eq_getD_getElem?]; exact (hdep ⟨7, .data⟩ (by simp) rfl 20 _ rfl).1
      have ev21 : a.tmps[21]?.getD undef = v := by rw [← Array.getD_eq_getD_getElem?]; exact (hdep ⟨8, .data⟩ (by simp) rfl 21 _ rfl).1
      refine ⟨rfl, 48, #[.pointer (some ⟨p, 0, none⟩), v], ?_, ?_⟩
      · simp [ev20, ev21, execOp, go_sem]
      · exact (hca.out W (hx hE0) hpre).mono (by rintro e W1 ⟨v1, rfl, h1, h2⟩; exact ⟨v1, rfl, h1, fun _ => h2, trivial⟩)

end Go.Proofs.Ytmpomammieenjaa

namespace Go.Proofs.Ytmpomammieenjaa
open Go.ChangeShapes Go.WideShapes Go.ChangeAt Go.RowKit Go.Sort
set_option linter.unusedVariables false
set_option linter.unusedSimpArgs false
attribute [local go_sem] World.cell?_alloc_some

def RetN (G : Nat → Prop) (w : World) (t : Tr) (e : Ending) (w' : World) : Prop := ∃ v, e = .returned v ∧ NewP G w' v t ∧ Ext w w'

set_option maxRecDepth 100000 in
set_option maxHeartbeats 16000000 in
theorem join_any {G : Nat → Prop} {a b : Nat} {ta tb : Tr} {w : World} (hA : AtP G w a ta) (hB : AtP G w b tb) (hG : Up G w) (ha : okR ta) (hb : okR tb) (hn : cnt ta + cnt tb ≤ 100000) :
    Calls Try.prog 73 #[Vp a, Vp b] w (RetN G w (.node ta tb)) := by
  have hta := ht_lt ha
  have htb := ht_lt hb
  have hsa := shw_le ta
  have hsb := shw_le tb
  have hA' := hA
  have hB' := hB
  obtain ⟨_, ch, lf, rt, ⟨_, _, _, p3, p4, p5, p6, p7⟩, _⟩ := hA'
  obtain ⟨_, ch, lf, rt, ⟨_, _, _, q3, q4, q5, q6, q7⟩, _⟩ := hB'
  have hend := Lib.hid (show ∀ W, Ext w W → RetN G w (.node ta tb) (.returned (Vp W.heap.size)) (W.alloc (.cells #[.slice none 0 0, Vp a, Vp b, Vi (max (htT ta) (htT tb) + 1 : Nat), Vi (cnt ta + cnt tb : Nat), Vi (shw ta + shw tb : Nat), Vq (min (loT ta) (loT tb)), Vq (max (hiT ta) (hiT tb))] 28)) by
    intro W hx
    have hx2 : Ext w (W.alloc (.cells #[.slice none 0 0, Vp a, Vp b, Vi (max (htT ta) (htT tb) + 1 : Nat), Vi (cnt ta + cnt tb : Nat), Vi (shw ta + shw tb : Nat), Vq (min (loT ta) (loT tb)), Vq (max (hiT ta) (hiT tb))] 28)) := hx.alloc _
    refine ⟨_, rfl, ⟨W.heap.size, rfl, hG _ hx.size, _, _, _, ?_, PV.of_node (hA.ext hx2) (hB.ext hx2)⟩, hx2⟩
    rw [cnt_node, shw_node]
    exact PtC.new W _ _ _ _ _ _ _ _ _)
  clear hA hB hG ha hb
  generalize htT ta = h1 at *
  generalize htT tb = h2 at *
  generalize cnt ta = n1 at *
  generalize cnt tb = n2 at *
  generalize shw ta = s1 at *
  generalize shw tb = s2 at *
  generalize loT ta = l1 at *
  generalize loT tb = l2 at *
  generalize hiT ta = u1 at *
  generalize hiT tb = u2 at *
  have p3 := ((Ext.refl w).drew).keep p3
  have p4 := ((Ext.refl w).drew).keep p4
  have p5 := ((Ext.refl w).drew).keep p5
  have p6 := ((Ext.refl w).drew).keep p6
  have p7 := ((Ext.refl w).drew).keep p7
  have q3 := ((Ext.refl w).drew).keep q3
  have q4 := ((Ext.refl w).drew).keep q4
  have q5 := ((Ext.refl w).drew).keep q5
  have q6 := ((Ext.refl w).drew).keep q6
  have q7 := ((Ext.refl w).drew).keep q7
  go_enter Try.func73, Try.ntmps73
  go_wp2_with fail
  refine wp_region_still_tail 49 (by kernel_rfl) (by kernel_rfl) ?_
  simp only [List.take_succ_cons, List.take_zero, List.drop_succ_cons, List.drop_zero]
  change wpStill Try.prog _ w.drew (fun a' => wpList Try.prog _ _ _ a' w.drew) _ _
  have hx := (Ext.refl w).drew
  have hend2 := Lib.hid (hend.out _ hx)
  clear hend
  generalize w.drew = w2 at *
  repeat still_step
  refine wpStill_nil ?_
  clear p3 p4 p5 p6 p7 q3 q4 q5 q6 q7
  generalize hm : (if h1 < h2 then (h2 : Int) else (h1 : Int)) = m
  generalize hl : (if l2 < l1 then l2 else l1) = l
  generalize hu : (if u1 < u2 then u2 else u1) = u
  have hm' : m = ((max h1 h2 : Nat) : Int) := by rw [← hm]; split <;> omega
  have hl' : min l1 l2 = l := by rw [← hl]; split <;> omega
  have hu' : max u1 u2 = u := by rw [← hu]; split <;> omega
  subst hm'
  rw [hl', hu'] at hend2
  clear hm hl hu hl' hu'
  have hH : max h1 h2 < 100000 := by omega
  generalize max h1 h2 = H at *
  go_wp2
  go_ret
  have e1 : (H : Int) + 1 = ((H + 1 : Nat) : Int) := by omega
  have e2 : (n1 : Int) + (n2 : Int) = ((n1 + n2 : Nat) : Int) := by omega
  have e3 : (s1 : Int) + (s2 : Int) = ((s1 + s2 : Nat) : Int) := by omega
  rw [e1, e2, e3]
  exact hend2.out

theorem AtP.high {G : Nat → Prop} {W : World} {b : Nat} {t : Tr} (h : AtP G W b t) : W.cell? ⟨b, 3, none⟩ = some (Vi (htT t)) := by
  obtain ⟨_, _, _, _, x, _⟩ := h
  exact x.c3
theorem AtP.left {G : Nat → Prop} {W : World} {b : Nat} {x y : Tr} (h : AtP G W b (.node x y)) : ∃ p q, W.cell? ⟨b, 1, none⟩ = some (Vp p) ∧ W.cell? ⟨b, 2, none⟩ = some (Vp q) ∧ AtP G W p x ∧ AtP G W q y := by
  obtain ⟨_, _, _, _, z, v⟩ := h
  obtain ⟨rfl, p, q, rfl, rfl, hp, hq⟩ := v.node
  exact ⟨p, q, z.c1, z.c2, hp, hq⟩
end Go.Proofs.Ytmpomammieenjaa
