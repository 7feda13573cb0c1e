/-
  How long the walk's lists are, in plain mathematics: no memory; no claim stands here.
-/
import Derived.Test.YtmpomammieenjaaTBst
namespace Go.Proofs.Ytmpomammieenjaa
set_option linter.unusedVariables false

end Go.Proofs.Ytmpomammieenjaa
