/-
  Closing tactics by name.
-/
namespace Go.Proofs.YtncfhbpejchbfaaGreatDoor
theorem ω {p:Prop} (h:p:=by omega):p:=h
theorem δ {p:Prop} (h:p:=by decide):p:=h
theorem ι {p:Prop} (h:p:=by simp):p:=h
end Go.Proofs.YtncfhbpejchbfaaGreatDoor
