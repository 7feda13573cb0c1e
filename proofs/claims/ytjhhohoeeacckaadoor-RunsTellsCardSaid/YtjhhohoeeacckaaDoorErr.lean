/-
  Errors that are Codes, and what tells their number; no claim stands here.
-/
import Derived.Test.YtjhhohoeeacckaaDoorBase
namespace Go.Proofs.YtjhhohoeeacckaaDoor
open Go.ChangeShapes Go.WideShapes Go.ChangeAt Go.RowKit Go.Sort
set_option linter.unusedVariables false

/-- an error that is a Code, 0 for none -/
def errv (c : Int) : Value := if c = 0 then .nilIface else .iface 62 (.int .i64 c)

end Go.Proofs.YtjhhohoeeacckaaDoor
