/-
  Known items, on what they hang, their paths and their order, in plain mathematics: no memory; no claim stands here.
-/
import Derived.Test.YtdpmhhfpjpdfiaaTMath
namespace Go.Proofs.Ytdpmhhfpjpdfiaa
set_option linter.unusedVariables false

structure Hg where
  on : I2
  right : Bool
def fnd : List It → I2 → Option Nat
  | [], _ => none
  | x :: l, a => if iid x = a then some 0 else (fnd l a).map (· + 1)
def hasI (l : List It) (a : I2) : Bool := l.any fun x => decide (iid x = a)
theorem has_iffI {l : List It} {a : I2} : hasI l a = true ↔ ∃ x ∈ l, iid x = a := by
  unfold hasI
  rw [List.any_eq_true]
  simp
def knownX (p : List It) (x : It) : Bool := decide (x.c ≠ 0) && !hasI p (iid x) && (decide (x.lc = 0) || hasI p (ilf x)) && (decide (x.rc = 0) || hasI p (irt x))
def knownG (p : List It) : List It → Bool
  | [] => true
  | x :: r => knownX p x && knownG (p ++ [x]) r
def knownI (l : List It) : Bool := knownG [] l
theorem snoc_ind {α : Type} {P : List α → Prop} (h0 : P []) (h1 : ∀ l x, P l → P (l ++ [x])) (l : List α) : P l := by
  have h : ∀ n (l : List α), l.length = n → P l := by
    intro n
    induction n with
    | zero => intro l hl; rw [List.length_eq_zero_iff.1 hl]; exact h0
    | succ n ih =>
      intro l hl
      have hne : l ≠ [] := fun e => by rw [e] at hl; simp at hl
      rw [← List.dropLast_concat_getLast hne]
      exact h1 _ _ (ih _ (by rw [List.length_dropLast]; omega))
  exact h _ l rfl

/-! paths -/
def pOf (l : List It) (ps : List Pth) (a : I2) : Pth := match fnd l a with
  | none => []
  | some i => (ps[i]?).getD []
def blwP (l : List It) (ps : List Pth) (a b : I2) : Bool := decide (b.1 = 0) || ((pOf l ps a).dropLast.any fun s => decide (s.2 = b))
def plcP (l : List It) (ps : List Pth) (x : It) : Hg :=
  if x.rc ≠ 0 ∧ blwP l ps (irt x) (ilf x) = true then ⟨irt x, false⟩ else ⟨if x.lc = 0 then (0, 0) else ilf x, true⟩
def newP (l : List It) (ps : List Pth) (x : It) : Pth := pOf l ps (plcP l ps x).on ++ [((plcP l ps x).right, iid x)]
def pathsG (p : List It) (ps : List Pth) : List It → List Pth
  | [] => ps
  | x :: r => pathsG (p ++ [x]) (ps ++ [newP p ps x]) r
def paths (l : List It) : List Pth := pathsG [] [] l
def pth (l : List It) (a : I2) : Pth := pOf l (paths l) a
theorem has_snoc {l : List It} {x : It} {a : I2} : hasI (l ++ [x]) a = (hasI l a || decide (iid x = a)) := by
  unfold hasI
  rw [List.any_append]
  simp
/-! a path hangs on the items alone -/
/-! the order -/
end Go.Proofs.Ytdpmhhfpjpdfiaa
