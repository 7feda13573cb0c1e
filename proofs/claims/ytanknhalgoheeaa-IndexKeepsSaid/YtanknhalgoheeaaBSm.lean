/-
  Contracts of the law's Small and Pick; no claim stands here.
-/
import Derived.Test.YtanknhalgoheeaaNMem
namespace Go.Proofs.Ytanknhalgoheeaa
open Go.ChangeShapes Go.WideShapes Go.ChangeAt Go.RowKit Go.Sort
set_option linter.unusedVariables false
attribute [local go_sem] World.cell?_alloc_some

/-- a batch's two lists, as values -/
abbrev batv (A : Option Addr) (n c : Nat) (B : Option Addr) (m d : Nat) : Value := .agg #[.slice A n c, .slice B m d]
def smallB (rs : List Rn) (m : Nat) : Bool := decide (rs.length ≤ 40 ∧ m ≤ 40) && rs.all fun r => decide (r.t.length ≤ 200)
theorem small_take {l : List Rn} {k : Nat} {r : Rn} (h : l[k]? = some r) (p : Rn → Bool) : (l.take (k + 1)).all p = ((l.take k).all p && p r) := by
  rw [List.take_add_one, h, List.all_append]
  simp
theorem small_no {l : List Rn} {r : Rn} (hm : r ∈ l) (h : 200 < r.t.length) (m : Nat) : smallB l m = false := by
  unfold smallB
  rw [show (l.all fun r => decide (r.t.length ≤ 200)) = false from ?_, Bool.and_false]
  rw [List.all_eq_false]
  exact ⟨r, hm, by simp; omega⟩

theorem pick_any (x : Int) (n : Nat) (w : World) (h0 : 0 < n) (hn : n ≤ 100000) (hx : -9223372036854775808 ≤ x ∧ x ≤ 9223372036854775807) :
    Calls Try.prog 10 #[Vi x, Vi n] w fun e w' => ∃ k : Nat, k < n ∧ e = .returned (Vi k) ∧ w = w' := by
  have hb0 := Int.tmod_lt_of_pos x (b := (n : Int)) (by omega)
  have hb1 : -(n : Int) < x.tmod n := by
    have := Int.lt_tmod_of_pos x (b := (n : Int)) (by omega)
    omega
  have hne : (n : Int) ≠ 0 := by omega
  have hne' : ¬ (n = 0) := by omega
  by_cases hneg : x.tmod n < 0
  · have hw : IntKind.i64.wrap (x.tmod n + n) = x.tmod n + n := IntWalk.i64_in _ (by omega)
    have hw0 : IntKind.i64.wrap (x.tmod n) = x.tmod n := IntWalk.i64_in _ (by omega)
    go_enter Try.func10, Try.ntmps10
    go_wp2
    go_ret
    exact ⟨(x.tmod n + n).toNat, by omega, ret_i64 (by omega), rfl⟩
  · have hw0 : IntKind.i64.wrap (x.tmod n) = x.tmod n := IntWalk.i64_in _ (by omega)
    go_enter Try.func10, Try.ntmps10
    go_wp2
    go_ret
    exact ⟨(x.tmod n).toNat, by omega, ret_i64 (by omega), rfl⟩

end Go.Proofs.Ytanknhalgoheeaa
