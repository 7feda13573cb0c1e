/-
  Of what was there only some blocks may have turned; no claim stands here.
-/
import Derived.Test.YtfcoidpkhggnpaaBase
namespace Go.Proofs.Ytfcoidpkhggnpaa
open Go.ChangeShapes Go.WideShapes Go.ChangeAt Go.RowKit Go.Sort
set_option linter.unusedVariables false

/-- of what was there only these blocks may have turned -/
structure TSb (S : Nat → Prop) (W W' : World) : Prop where
  os : W'.os = W.os
  tape : W'.tape = W.tape
  output : W'.output = W.output
  size : W.heap.size ≤ W'.heap.size
  block : ∀ k, k < W.heap.size → ¬ S k → W'.heap[k]? = W.heap[k]?
theorem TSb.refl (S : Nat → Prop) (W : World) : TSb S W W := ⟨rfl, rfl, rfl, Nat.le_refl _, fun _ _ _ => rfl⟩
theorem TSb.trans {S T : Nat → Prop} {a b c : World} (h : TSb S a b) (k : TSb T b c) (hT : ∀ j, j < a.heap.size → T j → S j) : TSb S a c :=
  ⟨k.os.trans h.os, k.tape.trans h.tape, k.output.trans h.output, Nat.le_trans h.size k.size, fun j hj hn => (k.block j (Nat.lt_of_lt_of_le hj h.size) fun e => hn (hT j hj e)).trans (h.block j hj hn)⟩
theorem TSb.ext {S : Nat → Prop} {a b : World} (h : Ext a b) : TSb S a b := ⟨RowKit.Below.os h, RowKit.Below.tape h, RowKit.Below.output h, h.size, fun k hk _ => RowKit.Below.block h k hk⟩
theorem TSb.down {S : Nat → Prop} {w0 W W' : World} (h : TSb S W W') (hx : Ext w0 W) (hS : ∀ k, S k → w0.heap.size ≤ k) : Ext w0 W' :=
  ⟨h.os.trans (RowKit.Below.os hx), h.tape.trans (RowKit.Below.tape hx), h.output.trans (RowKit.Below.output hx), Nat.le_trans hx.size h.size, fun k hk => (h.block k (Nat.lt_of_lt_of_le hk hx.size) fun e => by have := hS k e; omega).trans (RowKit.Below.block hx k hk)⟩

end Go.Proofs.Ytfcoidpkhggnpaa
