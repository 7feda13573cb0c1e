/-
  Items where they hang, by numbers: nodes, ways up, in plain mathematics: no memory; no claim stands here.
-/
import Derived.Test.YtdpmhhfpjpdfiaaTBst
namespace Go.Proofs.Ytdpmhhfpjpdfiaa
set_option linter.unusedVariables false

structure Nd where
  id : I2
  on : Nat
  right : Bool
  depth : Nat
  far : Nat
def nd0 : Nd := ⟨(0, 0), 0, false, 0, 0⟩
def pthN (l : List It) (n : Nat) : Pth := if n = 0 then [] else ((l[n - 1]?).map fun x => pth l (iid x)).getD []
theorem lt_of_get {α : Type} {l : List α} {i : Nat} {x : α} (h : l[i]? = some x) : i < l.length := by
  rcases Nat.lt_or_ge i l.length with g | g
  · exact g
  · rw [List.getElem?_eq_none g] at h; cases h
structure GrN (l : List It) (ns : List Nd) : Prop where
  len : ns.length = l.length + 1
  root : ns[0]? = some nd0
  ids : ∀ i x, l[i]? = some x → ∃ nd, ns[i + 1]? = some nd ∧ nd.id = iid x
  deep : ∀ n nd, ns[n]? = some nd → nd.depth = (pthN l n).length ∧ nd.on ≤ l.length ∧ nd.far ≤ l.length ∧ ∃ q, pthN l n = pthN l nd.far ++ q ∧ (0 < n → q ≠ [])
  up : ∀ n nd, ns[n]? = some nd → 0 < n → pthN l n = pthN l nd.on ++ [(nd.right, nd.id)]

theorem GrN.get {l : List It} {ns : List Nd} (h : GrN l ns) {n : Nat} (hn : n ≤ l.length) : ∃ nd, ns[n]? = some nd := ⟨ns[n]'(by rw [h.len]; omega), List.getElem?_eq_getElem (by rw [h.len]; omega)⟩
theorem GrN.nil : GrN [] [nd0] where
  len := rfl
  root := rfl
  ids i x h := by simp at h
  deep n nd h := by
    cases n with
    | zero => simp at h; subst h; exact ⟨rfl, Nat.le_refl _, Nat.le_refl _, [], rfl, fun h => absurd h (by omega)⟩
    | succ n => simp at h
  up n nd h h0 := by
    cases n with
    | zero => omega
    | succ n => simp at h

end Go.Proofs.Ytdpmhhfpjpdfiaa
