/-
  Closing tactics by name.
-/
import Derived.KernelRfl
import Derived.IntWalk
import Derived.Attr
import Derived.Test.YtncfhbpejchbfaaGreatDoorClnP
namespace Go.Proofs.YtncfhbpejchbfaaGreatDoor
theorem κ {p:Prop} (h:p:=by kernel_rfl):p:=h
theorem σ {p:Prop} (h:p:=by simp[go_sem]):p:=h
theorem ν {p:Prop} (h:p:=by go_num):p:=h
end Go.Proofs.YtncfhbpejchbfaaGreatDoor
