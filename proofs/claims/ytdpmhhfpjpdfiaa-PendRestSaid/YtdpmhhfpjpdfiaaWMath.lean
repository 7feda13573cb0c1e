/-
  Numbers and texts as bytes, in plain lists: no memory; no claim stands here.
-/
import Derived.Lib.ValidLaws
import Derived.Lib.BitFns
namespace Go.Proofs.Ytdpmhhfpjpdfiaa
open Go.Lib
set_option linter.unusedVariables false

def be (v : Nat) : Nat → List UInt8
  | 0 => []
  | k + 1 => UInt8.ofNat (v / 256 ^ k) :: be v k
end Go.Proofs.Ytdpmhhfpjpdfiaa
