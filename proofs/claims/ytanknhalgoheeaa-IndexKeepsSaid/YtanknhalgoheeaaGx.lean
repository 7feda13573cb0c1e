/-
  Worlds in which some blocks have turned and no others; no claim stands here.
-/
import Derived.Test.YtanknhalgoheeaaMem
import Derived.Deep.RegionHeld
namespace Go.Proofs.Ytanknhalgoheeaa
open Go.ChangeShapes Go.WideShapes Go.ChangeAt Go.RowKit Go.Sort
set_option linter.unusedVariables false

/-- only block p has turned -/
def RX (p : Nat) (W W' : World) : Prop := W.grownBy W' (some p)
theorem RX.refl (p : Nat) (W : World) : RX p W W := ⟨rfl, rfl, rfl, Nat.le_refl _, fun _ _ _ => rfl⟩
theorem RX.trans {p : Nat} {a b c : World} (h : RX p a b) (k : RX p b c) : RX p a c :=
  ⟨k.os.trans h.os, k.tape.trans h.tape, k.output.trans h.output, Nat.le_trans h.size k.size, fun j hj hne => (k.block j (Nat.lt_of_lt_of_le hj h.size) hne).trans (h.block j hj hne)⟩
theorem RX.ext {p : Nat} {a b : World} (h : Ext a b) : RX p a b := ⟨RowKit.Below.os h, RowKit.Below.tape h, RowKit.Below.output h, h.size, fun k hk _ => RowKit.Below.block h k hk⟩
theorem RX.down {p : Nat} {w0 W W' : World} (hx : Ext w0 W) (hp : w0.heap.size ≤ p) (h : RX p W W') : Ext w0 W' := RowKit.Below.grown hx h hx.size (fun k hk => by injection hk with hk; omega)
theorem RX.cell {p q j : Nat} {W W' : World} {x : Value} (h : RX p W W') (hc : W.cell? ⟨q, j, none⟩ = some x) (hne : q ≠ p) : W'.cell? ⟨q, j, none⟩ = some x := by
  rw [World.cell?_of_block (w := W) (w' := W') (a := ⟨q, j, none⟩) (h.block q (World.block_lt_of_cell? _ _ hc) (fun e => hne (by injection e)))]; exact hc
theorem RX.blk {p q : Nat} {W W' : World} {o : Obj} (h : RX p W W') (hc : W.heap[q]? = some o) (hne : q ≠ p) : W'.heap[q]? = some o := by
  rw [h.block q (Array.getElem?_eq_some_iff.1 hc).1 (fun e => hne (by injection e))]; exact hc
theorem RX.set {p q : Nat} {W W' : World} (h : RX p W W') (j : Nat) (u : Value) (hq : W.heap.size ≤ q ∨ q = p) : RX p W (W'.setCell ⟨q, j, none⟩ u) := by
  refine ⟨by rw [← h.os]; rfl, by rw [← h.tape]; rfl, by rw [← h.output]; rfl, by have := h.size; simpa [World.setCell] using this, fun k hk hne => ?_⟩
  rw [heap_setCell_other _ _ _ _ ?_, h.block k hk hne]
  intro e
  simp only at e
  subst e
  rcases hq with g | g
  · omega
  · exact hne (by rw [g])
/-- of the blocks below B two may have turned -/
structure GX (B p q : Nat) (w W : World) : Prop where
  os : W.os = w.os
  tape : W.tape = w.tape
  output : W.output = w.output
  size : B ≤ W.heap.size
  block : ∀ k, k < B → k ≠ p → k ≠ q → W.heap[k]? = w.heap[k]?
theorem GX.refl (B p q : Nat) (w : World) (h : B ≤ w.heap.size) : GX B p q w w := ⟨rfl, rfl, rfl, h, fun _ _ _ _ => rfl⟩
theorem GX.on {B p q : Nat} {w W W' : World} {row : Option Nat} (h : GX B p q w W) (g : W.grownBy W' row) (hr : ∀ k, row = some k → B ≤ k ∨ k = p ∨ k = q) : GX B p q w W' := by
  refine ⟨g.os.trans h.os, g.tape.trans h.tape, g.output.trans h.output, Nat.le_trans h.size g.size, fun k hk h1 h2 => ?_⟩
  rw [g.block k (Nat.lt_of_lt_of_le hk h.size) ?_, h.block k hk h1 h2]
  intro e
  rcases hr k e.symm with h3 | h3 | h3
  · omega
  · exact h1 h3
  · exact h2 h3
theorem GX.rx {B p q : Nat} {w W W' : World} (h : GX B p q w W) (g : RX p W W') : GX B p q w W' := h.on g (fun k e => by injection e with e; exact .inr (.inl e.symm))
theorem GX.set {B p q j : Nat} {w W : World} (h : GX B p q w W) (u : Value) : GX B p q w (W.setCell ⟨q, j, none⟩ u) := h.on (RX.set (RX.refl q W) j u (.inr rfl)) (fun k e => by injection e with e; exact .inr (.inr e.symm))
theorem GX.down {B p q : Nat} {w0 w W : World} (h : GX B p q w W) (hx : Ext w0 w) (hB : w.heap.size ≤ B) (hp : w0.heap.size ≤ p) (hq : w0.heap.size ≤ q) : Ext w0 W := by
  refine ⟨h.os.trans (RowKit.Below.os hx), h.tape.trans (RowKit.Below.tape hx), h.output.trans (RowKit.Below.output hx), by have := hx.size; have := h.size; omega, fun k hk => ?_⟩
  rw [h.block k (by have := hx.size; omega) (by omega) (by omega)]
  exact RowKit.Below.block hx k hk
theorem GX.toRX {B p q : Nat} {W w1 Z : World} (h : GX B p q w1 Z) (hx : Ext W w1) (hB : W.heap.size ≤ B) (hq : W.heap.size ≤ q) : RX p W Z := by
  refine ⟨h.os.trans (RowKit.Below.os hx), h.tape.trans (RowKit.Below.tape hx), h.output.trans (RowKit.Below.output hx), Nat.le_trans hB h.size, fun k hk hne => ?_⟩
  rw [h.block k (by omega) (fun e => hne (by rw [e])) (by omega)]
  exact RowKit.Below.block hx k hk
/-- a row's block is none of those below B -/
def far (B : Nat) (v : Value) : Prop := ∀ k, v.ownBlock = some k → B ≤ k
theorem far.nil (B : Nat) : far B (.slice none 0 0) := fun k hk => by cases hk
theorem far.mono {B C : Nat} {v : Value} (h : far B v) (hc : C ≤ B) : far C v := fun k hk => Nat.le_trans hc (h k hk)
theorem far.ne {B k : Nat} {v : Value} (h : far B v) (hk : k < B) : v.ownBlock = none ∨ v.ownBlock ≠ some k := .inr fun e => by have := h k e; omega
theorem far.on {B n : Nat} {v v' : Value} (h : far B v) (b : v'.ownBlock = v.ownBlock ∨ v'.ownBlock = some n) (hn : B ≤ n) : far B v' := fun k hk => by
  rcases b with e | e
  · exact h k (by rw [← e]; exact hk)
  · rw [e] at hk; injection hk with hk; omega

theorem GX.cellq {B q q4 j : Nat} {w W : World} {x : Value} (h : GX B q4 q4 w W) (hc : w.cell? ⟨q, j, none⟩ = some x) (hq : q < B) (hne : q ≠ q4) : W.cell? ⟨q, j, none⟩ = some x := by
  rw [World.cell?_of_block (w := w) (w' := W) (a := ⟨q, j, none⟩) (h.block q hq hne hne)]; exact hc
theorem GX.blkq {B q q4 : Nat} {w W : World} {o : Obj} (h : GX B q4 q4 w W) (hc : w.heap[q]? = some o) (hq : q < B) (hne : q ≠ q4) : W.heap[q]? = some o := by
  rw [h.block q hq hne hne]; exact hc
theorem GX.ext {B p q : Nat} {w W W' : World} (h : GX B p q w W) (hx : Ext W W') : GX B p q w W' :=
  h.on (row := none) ⟨RowKit.Below.os hx, RowKit.Below.tape hx, RowKit.Below.output hx, hx.size, fun k hk _ => RowKit.Below.block hx k hk⟩ (fun k e => by cases e)

end Go.Proofs.Ytanknhalgoheeaa
