/-
  What opens the tables of utf8's that the rows list; no claim stands here.
-/
import Derived.Test.YtjjehncgenajfaaDoorCards
import Derived.Test.YtjjehncgenajfaaDoorTie
import Derived.Test.YtjjehncgenajfaaDoorTab
import Derived.Lib.LaidU8T
import Derived.Deep.DeepHandedRow
import Derived.Deep.SlicePairs
import Derived.Lay
import Derived.ChangeMaps5
import Derived.MakeChecks
namespace Go.Proofs.YtjjehncgenajfaaDoor
open Go.ChangeShapes Go.WideShapes Go.ChangeAt Go.RowKit Go.Sort
set_option linter.unusedVariables false

/-- the tables that the rows list -/
def laidTabs : List (String × DataW Unit) := [("unicode/utf8.acceptRanges", Rows.laid_unicode_utf8_acceptRanges), ("unicode/utf8.first", Rows.laid_unicode_utf8_first)]
def renU : Go.Shelf.Ren := ⟨fun n => n, fun | 119 => 58 | 138 => 61 | 139 => 62 | 5 => 5 | n => n, fun | 3 => 0 | 4 => 1 | n => n⟩
theorem typesU : U8Types Tryd.prog renU := ⟨Tryd.underlying5, Tryd.underlying58, Tryd.underlying61, Tryd.underlying62⟩
theorem extraU : U8Extra Tryd.prog renU := ⟨by kernel_rfl, by kernel_rfl, by kernel_rfl, by kernel_rfl, by kernel_rfl, by kernel_rfl, by kernel_rfl⟩
theorem firstU : Rows.laid_unicode_utf8_first = Lib.firstData := by kernel_rfl
theorem acceptU : Rows.laid_unicode_utf8_acceptRanges = Lib.acceptData := by kernel_rfl
theorem tabs_of {W : World} (h : laidMet Tryd.prog laidTabs W) : Tabs W :=
  utf8Tabs_of_readsT typesU extraU (firstU ▸ Lib.laidMet.reads h (.tail _ (.head _))) (acceptU ▸ Lib.laidMet.reads h (.head _))

/-- a world for the witness, the tables laid -/
noncomputable def laidWorld (os : Os) : World := World.laidAll Tryd.prog os laidTabs
theorem laid_met (os : Os) (args : Array Value) : laidMet Tryd.prog laidTabs ((laidWorld os).forCall (fun _ _ => 0) ⟨#[], args, []⟩).memory := laidMet_laidAll _ (by kernel_rfl) (by kernel_rfl)

end Go.Proofs.YtjjehncgenajfaaDoor
