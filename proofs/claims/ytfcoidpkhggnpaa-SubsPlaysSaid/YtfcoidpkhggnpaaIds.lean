/-
  Contracts of the functions of ids, of cmp and of the reference's; no claim stands here.
-/
import Derived.Test.YtfcoidpkhggnpaaCmp
import Derived.Test.YtfcoidpkhggnpaaErr
namespace Go.Proofs.Ytfcoidpkhggnpaa
open Go.ChangeShapes Go.WideShapes Go.ChangeAt Go.RowKit Go.Sort
set_option linter.unusedVariables false

/-- the same Id -/
def idEq (a b c d : Int) : Bool := decide (a = c ∧ b = d)

def cmpId (a b c d : Int) : Int := if a = c then cmpI b d else cmpI a c

def befId (a b c d : Int) : Bool := decide (a < c ∨ a = c ∧ b < d)

def cmpRef (a b c d : Int) : Int := if befId a b c d then -1 else if befId c d a b then 1 else 0

/-- what After tells: the Id and the number of the error -/
def aftId (a b n l : Int) : Int × Int × Int := if a = 0 ∨ n < 0 then (0, 0, 1) else if b + n > l then (0, 0, 4) else (a, b + n, 0)

end Go.Proofs.Ytfcoidpkhggnpaa
