/-
  Characters of texts, in plain lists: no memory; no claim stands here.
-/
import Derived.Lib.ValidLaws
namespace Go.Proofs.Ytmpomammieenjaa
open Go.Lib
set_option linter.unusedVariables false

def bt (l : List UInt8) (i k : Nat) : Nat := (l.getD (i + k) 0).toNat
end Go.Proofs.Ytmpomammieenjaa
