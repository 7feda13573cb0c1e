/-
  The closed facts of TopOrders' row, one by one; no claim stands here.
-/
import Derived.Test.YtncfhbpejchbfaaGreatDoorCloP
import Derived.Test.YtncfhbpejchbfaaGreatDoorRows
import Derived.JoinedCond
set_option linter.unusedVariables false
set_option linter.unusedSimpArgs false
set_option maxRecDepth 100000
open Go.Proofs.Tryz
namespace Go.Proofs.YtncfhbpejchbfaaGreatDoor
theorem fo1:(Rows.topOrdersRow.inPlace==Tryz.pinned.checked.prog.inPlace 3)=true:=κ
theorem fo2:(Rows.topOrdersRow.unfollowed==Tryz.pinned.checked.prog.unfollowed 3)=true:=κ
theorem fo3:(Rows.topOrdersRow.recurses==Tryz.pinned.checked.prog.recurses 3)=true:=κ
theorem fo4:(Rows.topOrdersRow.named==Tryz.pinned.checked.prog.varsNamed 3)=true:=κ
theorem EN:joinedFacts Tryz.pinned.checked.prog 3 f3 (OpenSpec.ofChange Rows.topOrdersSpec).bare Rows.topOrdersRow=true:=by
 unfold joinedFacts;rw[fo1,fo2,fo3,fo4]
 kernel_rfl
end Go.Proofs.YtncfhbpejchbfaaGreatDoor
