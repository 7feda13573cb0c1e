/-
  Below, by climbing; the order, by walking; in plain mathematics: no memory; no claim stands here.
-/
import Derived.Test.YtdpmhhfpjpdfiaaTBtw
namespace Go.Proofs.Ytdpmhhfpjpdfiaa
set_option linter.unusedVariables false

/-! the walk -/
end Go.Proofs.Ytdpmhhfpjpdfiaa
