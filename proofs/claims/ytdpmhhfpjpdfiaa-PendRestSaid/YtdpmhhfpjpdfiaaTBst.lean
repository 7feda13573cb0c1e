/-
  What the reference's walk takes next, in plain mathematics: no memory; no claim stands here.
-/
import Derived.Test.YtdpmhhfpjpdfiaaTWalk
namespace Go.Proofs.Ytdpmhhfpjpdfiaa
set_option linter.unusedVariables false

/-! how deep the walk goes -/
end Go.Proofs.Ytdpmhhfpjpdfiaa
