/-
  The two tables of unicode/utf8 lie where they lie; no claim stands here.
-/
import Derived.Test.YtjjehncgenajfaaDoorBase
import Derived.Shelf.Unicode.DecodeSlow
import Derived.Lib.ValidAsc
namespace Go.Proofs.YtjjehncgenajfaaDoor
open Go.ChangeShapes Go.WideShapes Go.ChangeAt Go.RowKit Go.Sort
set_option linter.unusedVariables false

/-- the two tables of utf8 lie where they are -/
def Tabs (w : World) : Prop := Lib.Utf8Tabs 0 1 w
theorem Tabs.ext {w w' : World} (h : Tabs w) (hx : Ext w w') : Tabs w' := Utf8Tabs_below h hx

end Go.Proofs.YtjjehncgenajfaaDoor
