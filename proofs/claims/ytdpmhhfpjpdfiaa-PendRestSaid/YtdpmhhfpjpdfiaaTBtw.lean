/-
  What is put between two that stand side by side stands there; below, by climbing; in plain mathematics: no memory; no claim stands here.
-/
import Derived.Test.YtdpmhhfpjpdfiaaTKnown
namespace Go.Proofs.Ytdpmhhfpjpdfiaa
set_option linter.unusedVariables false

end Go.Proofs.Ytdpmhhfpjpdfiaa
