/-
  The two tables of unicode/utf8 lie where they lie; no claim stands here.
-/
import Derived.Shelf.Unicode.DecodeSlow
import Derived.Test.YtncfhbpejchbfaaGreatDoorPAf1
set_option linter.unusedVariables false
set_option linter.unusedSimpArgs false
namespace Go.Proofs.YtncfhbpejchbfaaGreatDoor
open Go.ChangeShapes Go.WideShapes Go.ChangeAt Go.RowKit Go.Sort
def Tabs (w:World):Prop:=Lib.Utf8Tabs 1 2 w
theorem Tabs.ext {w w':World} (h:Tabs w) (a:Ext w w'):Tabs w':=Utf8Tabs_below h a
end Go.Proofs.YtncfhbpejchbfaaGreatDoor
