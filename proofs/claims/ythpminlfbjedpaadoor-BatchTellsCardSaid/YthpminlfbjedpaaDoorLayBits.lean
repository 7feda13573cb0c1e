/-
  Contracts of library functions, laid at this seat; no claim stands here.
-/
import Derived.Shelf.Small.Bits
import Derived.Test.YthpminlfbjedpaaDoorProg
namespace Go.Proofs.YthpminlfbjedpaaDoor
open Go.Shelf
def Tryd.len32_ren : Go.Shelf.Ren := ⟨fun | 128 => 36 | n => n, fun | 51 => 45 | 3 => 3 | 4 => 4 | 46 => 98 | 5 => 5 | 9 => 9 | n => n, fun | n => n⟩
theorem Tryd.len32 : Go.Proofs.Lays.n128 Tryd.prog Tryd.len32_ren := {
  mixed := by kernel_rfl
  f128 := Tryd.func36.trans (congrArg some (by kernel_rfl))
  t3 := Tryd.underlying3
  a3 := Tryd.isAgg3
  z3 := Tryd.sizeOf3
  v3 := Tryd.zeroValue3
  t4 := Tryd.underlying4
  a4 := Tryd.isAgg4
  z4 := Tryd.sizeOf4
  v4 := Tryd.zeroValue4
  t5 := Tryd.underlying5
  a5 := Tryd.isAgg5
  z5 := Tryd.sizeOf5
  v5 := Tryd.zeroValue5
  t9 := Tryd.underlying9
  a9 := Tryd.isAgg9
  z9 := Tryd.sizeOf9
  v9 := Tryd.zeroValue9
  t46 := Tryd.underlying98
  a46 := Tryd.isAgg98
  z46 := Tryd.sizeOf98
  v46 := Tryd.zeroValue98
  t51 := Tryd.underlying45
  a51 := Tryd.isAgg45
  z51 := Tryd.sizeOf45
  v51 := Tryd.zeroValue45 }
end Go.Proofs.YthpminlfbjedpaaDoor
