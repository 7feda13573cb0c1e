/-
  A text as a value; no claim stands here.
-/
import Derived.Test.YtfcoidpkhggnpaaBase
namespace Go.Proofs.Ytfcoidpkhggnpaa
open Go.ChangeShapes Go.WideShapes Go.ChangeAt Go.RowKit Go.Sort

/-- a text -/
abbrev Vs (l : List UInt8) : Value := .string ⟨l.toArray⟩

end Go.Proofs.Ytfcoidpkhggnpaa
