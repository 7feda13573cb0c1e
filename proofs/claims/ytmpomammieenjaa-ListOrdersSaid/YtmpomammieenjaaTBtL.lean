/-
  What TreeBetween and TreeHangs ask of the order, in plain mathematics: no memory; no claim stands here.
-/
import Derived.Test.YtmpomammieenjaaTCome
namespace Go.Proofs.Ytmpomammieenjaa
set_option linter.unusedVariables false

theorem again_is {m other : List It} {o o' : List I2} (hm : knownI m = true) (hf : knownI other = true) (hs : ∀ x, x ∈ other ↔ x ∈ m) (ho : IsOrd m o) (ho' : IsOrd other o') : o' = o := ord_unique ho' (ord_same hf hm hs ho)
theorem Parts.full {m other : List It} (h : Parts m other []) : ∀ x, x ∈ other ↔ x ∈ m := fun x => ⟨h.ho x, fun hx => (h.cov x hx).resolve_right (by simp)⟩
end Go.Proofs.Ytmpomammieenjaa
