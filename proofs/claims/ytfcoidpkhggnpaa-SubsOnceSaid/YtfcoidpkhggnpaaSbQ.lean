/-
  Queues of messages: what is asked of one that is changed in place; the reference's, as one of these; no claim stands here.
-/
import Derived.Test.YtfcoidpkhggnpaaSbM
import Derived.Test.YtfcoidpkhggnpaaTSb
import Derived.Deep.DeepCutAuto
import Derived.BigQuiet
import Derived.Room.AppendUpon
namespace Go.Proofs.Ytfcoidpkhggnpaa
open Go.ChangeShapes Go.WideShapes Go.ChangeAt Go.RowKit Go.Sort
set_option linter.unusedVariables false
attribute [local go_sem] World.cell?_alloc_some

/-- what a push answers, holds then -/
def okP (k : Nat) (l : List Ms) (g : Bool) : Bool := !g && decide (l.length < k)
def nxL (k : Nat) (l : List Ms) (g : Bool) (m : Ms) : List Ms := if okP k l g then l ++ [m] else l
def nxG (k : Nat) (l : List Ms) (g : Bool) : Bool := !okP k l g
/-- what is drained -/
def outQ (l : List Ms) (g : Bool) (ver : Int) (text : List UInt8) : List Ms := l ++ if g then [⟨ver, true, text, 0, 0, []⟩] else []
theorem nxL_len (k : Nat) (l : List Ms) (g : Bool) (m : Ms) : (nxL k l g m).length ≤ l.length + 1 := by unfold nxL; split <;> simp
theorem outQ_len (l : List Ms) (g : Bool) (ver : Int) (text : List UInt8) : (outQ l g ver text).length ≤ l.length + 1 := by unfold outQ; split <;> simp

/-- a queue that is changed in place: S is where it lies -/
structure QuW (fP fD : FuncId) (Q : World → Value → Nat → List Ms → Bool → (Nat → Prop) → Prop) : Prop where
  low : ∀ {W p k l g S}, Q W p k l g S → ∀ b, S b → b < W.heap.size
  far : ∀ {W W' p k l g S}, Q W p k l g S → W.heap.size ≤ W'.heap.size → (∀ b, S b → W'.heap[b]? = W.heap[b]?) → Q W' p k l g S
  push : ∀ {W p k l g S} (m : Ms), SmM m → Q W p k l g S → l.length ≤ 1000 → k ≤ 1000 →
    Calls Try.prog fP #[p, msv m] W fun e W' => e = .returned (.bool (okP k l g)) ∧ ∃ S', Q W' p k (nxL k l g m) (nxG k l g) S' ∧ TSb S W W' ∧ ∀ b, S' b → S b ∨ W.heap.size ≤ b
  drain : ∀ {W p k l g S} (ver : Int) (text : List UInt8), text.length ≤ 281474976710656 → Q W p k l g S → l.length ≤ 1000 →
    Calls Try.prog fD #[p, Vi ver, Vs text] W fun e W' => ∃ (A : Option Addr) (c : Nat) (S' : Nat → Prop), e = .returned (.slice A (outQ l g ver text).length c) ∧ MsS W' A (outQ l g ver text) ∧ (∀ b o, A = some ⟨b, o, none⟩ → outQ l g ver text ≠ [] → S b ∨ W.heap.size ≤ b) ∧
      Q W' p k [] false S' ∧ TSb S W W' ∧ ∀ b, S' b → S b ∨ W.heap.size ≤ b
theorem QuW.ext {fP fD : FuncId} {Q : World → Value → Nat → List Ms → Bool → (Nat → Prop) → Prop} (h : QuW fP fD Q) {W W' : World} {p : Value} {k : Nat} {l : List Ms} {g : Bool} {S : Nat → Prop} (q : Q W p k l g S) (hx : Ext W W') : Q W' p k l g S :=
  h.far q hx.size fun b hb => RowKit.Below.block hx b (h.low q b hb)

end Go.Proofs.Ytfcoidpkhggnpaa
