/-
  What the reference's walk takes next, in plain mathematics: no memory; no claim stands here.
-/
import Derived.Test.YtmpomammieenjaaTWalk
namespace Go.Proofs.Ytmpomammieenjaa
set_option linter.unusedVariables false

theorem id_once {l : List It} (h : knownI l = true) {i j : Nat} {x y : It} (hx : l[i]? = some x) (hy : l[j]? = some y) (e : iid x = iid y) : i = j := by
  have hn := ids_nodup h
  have h1 : (l.map iid)[i]? = some (iid x) := by rw [List.getElem?_map, hx]; rfl
  have h2 : (l.map iid)[j]? = some (iid x) := by rw [List.getElem?_map, hy, e]; rfl
  have l1 := (List.getElem?_eq_some_iff.1 h1).1
  exact (List.getElem?_inj l1 hn).1 (h1.trans h2.symm)
/-! how deep the walk goes -/
end Go.Proofs.Ytmpomammieenjaa
