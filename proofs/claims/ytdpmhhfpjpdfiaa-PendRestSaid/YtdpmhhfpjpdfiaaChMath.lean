/-
  Characters of texts, in plain lists: no memory; no claim stands here.
-/
import Derived.Lib.ValidLaws
namespace Go.Proofs.Ytdpmhhfpjpdfiaa
open Go.Lib
set_option linter.unusedVariables false

end Go.Proofs.Ytdpmhhfpjpdfiaa
