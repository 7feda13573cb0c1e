/-
  The closed facts of TopRefuses' row, one by one; no claim stands here.
-/
import Derived.Test.YtejbpijamdlgcaaGreatDoorCloP
import Derived.Test.YtejbpijamdlgcaaGreatDoorRows
import Derived.JoinedCond
set_option linter.unusedVariables false
set_option linter.unusedSimpArgs false
set_option maxRecDepth 100000
namespace Go.Proofs.YtejbpijamdlgcaaGreatDoor
theorem fc1:(Rows.topRefusesRow.inPlace==Tryz.pinned.checked.prog.inPlace 5)=true:=κ
theorem fc2:(Rows.topRefusesRow.unfollowed==Tryz.pinned.checked.prog.unfollowed 5)=true:=κ
theorem fc3:(Rows.topRefusesRow.recurses==Tryz.pinned.checked.prog.recurses 5)=true:=κ
theorem fc4:(Rows.topRefusesRow.named==Tryz.pinned.checked.prog.varsNamed 5)=true:=κ
theorem FH:joinedFacts Tryz.pinned.checked.prog 5 Tryz.f5 (OpenSpec.ofChange Rows.topRefusesSpec).bare Rows.topRefusesRow=true:=by
 unfold joinedFacts;rw[fc1,fc2,fc3,fc4]
 kernel_rfl
end Go.Proofs.YtejbpijamdlgcaaGreatDoor
