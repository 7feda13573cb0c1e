/-
  Contracts of the functions of ids, of cmp and of the reference's; no claim stands here.
-/
import Derived.Test.YtanknhalgoheeaaCmp
import Derived.Test.YtanknhalgoheeaaErr
namespace Go.Proofs.Ytanknhalgoheeaa
open Go.ChangeShapes Go.WideShapes Go.ChangeAt Go.RowKit Go.Sort
set_option linter.unusedVariables false

/-- the same Id -/
def idEq (a b c d : Int) : Bool := decide (a = c ∧ b = d)

theorem id_eql (a b c d : Int) (W : World) : (binOp .eql 36 (idv a b) (idv c d)).run Try.prog W = .ok (.bool (idEq a b c d)) W := by
  by_cases h1 : a = c
  · by_cases h2 : b = d
    · simp [go_sem, idEq, h1, h2]
    · have h2' : (b == d) = false := by simpa using h2
      simp [go_sem, idEq, h1, h2, h2']
  · have h1' : (a == c) = false := by simpa using h1
    simp [go_sem, idEq, h1, h1']

def cmpId (a b c d : Int) : Int := if a = c then cmpI b d else cmpI a c

def befId (a b c d : Int) : Bool := decide (a < c ∨ a = c ∧ b < d)

def cmpRef (a b c d : Int) : Int := if befId a b c d then -1 else if befId c d a b then 1 else 0

/-- what After tells: the Id and the number of the error -/
def aftId (a b n l : Int) : Int × Int × Int := if a = 0 ∨ n < 0 then (0, 0, 1) else if b + n > l then (0, 0, 4) else (a, b + n, 0)

theorem cellsId : Try.prog.cellsOf 36 = 2 := by kernel_rfl

set_option maxRecDepth 100000 in
/-- an Id, opened -/
theorem id_opens {H : Type} {enc : TypeId × Value → H} {W : World} {base b0 : Nat} {sp : Nat → Bool} {hd : Bool} {r : Reach} {v : Value} {d : DataW H} {p : List MemPlace} (hv : Value.okWide Try.prog W r b0 36 v) (h : DataW.Trod enc Try.prog W base sp hd 36 v d p) :
    ∃ a b : Int, v = idv a b ∧ d = .agg [.lit (.int .u32 a), .lit (.int .u32 b)] ∧ p = [] ∧ (Lit.int .u32 a).wf = true ∧ (Lit.int .u32 b).wf = true := by
  obtain ⟨c0, c1, y0, y1, m, rfl, rfl, rfl, hy0, hy1⟩ := Go.Joins.open_agg2 Try.underlying36 (by kernel_rfl) cellsId hv h
  obtain ⟨a, e0, rfl, wa⟩ := DataW.trod_int Try.underlying34 hy0
  obtain ⟨b, e1, rfl, wb⟩ := DataW.trod_int Try.underlying34 hy1
  simp at e0 e1
  subst e0 e1
  exact ⟨a, b, rfl, rfl, rfl, wa, wb⟩

end Go.Proofs.Ytanknhalgoheeaa
