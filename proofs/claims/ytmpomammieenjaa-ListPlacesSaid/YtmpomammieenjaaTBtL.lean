/-
  What TreeBetween and TreeHangs ask of the order, in plain mathematics: no memory; no claim stands here.
-/
import Derived.Test.YtmpomammieenjaaTCome
namespace Go.Proofs.Ytmpomammieenjaa
set_option linter.unusedVariables false

end Go.Proofs.Ytmpomammieenjaa
