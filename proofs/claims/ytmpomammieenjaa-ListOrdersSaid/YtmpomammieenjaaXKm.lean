/-
  Plain laws of entries turned round, and of one that is Gone; no claim stands here.
-/
import Derived.Test.YtmpomammieenjaaXPl1
namespace Go.Proofs.Ytmpomammieenjaa
set_option linter.unusedVariables false

end Go.Proofs.Ytmpomammieenjaa
