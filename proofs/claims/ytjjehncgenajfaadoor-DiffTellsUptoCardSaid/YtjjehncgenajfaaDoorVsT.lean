/-
  A text as a value; no claim stands here.
-/
import Derived.Test.YtjjehncgenajfaaDoorBase
namespace Go.Proofs.YtjjehncgenajfaaDoor
open Go.ChangeShapes Go.WideShapes Go.ChangeAt Go.RowKit Go.Sort

/-- a text -/
abbrev Vs (l : List UInt8) : Value := .string ⟨l.toArray⟩

end Go.Proofs.YtjjehncgenajfaaDoor
