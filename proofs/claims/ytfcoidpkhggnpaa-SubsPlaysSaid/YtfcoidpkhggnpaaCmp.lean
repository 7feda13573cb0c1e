/-
  Contracts of the functions of package cmp; no claim stands here.
-/
import Derived.Test.YtfcoidpkhggnpaaBase
namespace Go.Proofs.Ytfcoidpkhggnpaa
open Go.ChangeShapes Go.WideShapes Go.ChangeAt Go.RowKit Go.Sort
set_option linter.unusedVariables false

def cmpI (a b : Int) : Int := if a < b then -1 else if b < a then 1 else 0

end Go.Proofs.Ytfcoidpkhggnpaa
