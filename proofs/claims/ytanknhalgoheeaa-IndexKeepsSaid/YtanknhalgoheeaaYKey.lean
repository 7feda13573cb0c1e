/-
  An Id as one number; no claim stands here.
-/
import Derived.Test.YtanknhalgoheeaaYMath
import Derived.Test.YtanknhalgoheeaaXFn
namespace Go.Proofs.Ytanknhalgoheeaa
open Go.ChangeShapes Go.WideShapes Go.ChangeAt Go.RowKit Go.Sort
set_option linter.unusedVariables false
attribute [local go_sem] World.cell?_alloc_some

abbrev Vq (n : Int) : Value := .int .u64 n
set_option maxRecDepth 100000 in
theorem key_any (c k : Int) (w : World) : Calls Try.prog 35 #[idv c k] w fun e w' => e = .returned (Vq (keyV c k)) ∧ Ext w w' := by
  go_enter Try.func35, Try.ntmps35
  go_wp2
  go_ret
  refine ⟨?_, (Ext.refl _).alloc _⟩
  rfl

end Go.Proofs.Ytanknhalgoheeaa
