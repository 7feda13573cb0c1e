/-
  Contract of the laws' Pick; no claim stands here.
-/
import Derived.Test.YtfcoidpkhggnpaaBase
import Derived.IntWalk
namespace Go.Proofs.Ytfcoidpkhggnpaa
open Go.ChangeShapes Go.WideShapes Go.ChangeAt Go.RowKit Go.Sort
set_option linter.unusedVariables false

theorem pick8_any (n : Int) (k : Nat) (w : World) (hk : 0 < k) (hk2 : k ≤ 3000) : Calls Try.prog 8 #[Vi n, Vi k] w fun e w' => (∃ r : Nat, r < k ∧ e = .returned (Vi r)) ∧ w = w' := by
  have h1 : Int.tmod n k < k := Int.tmod_lt_of_pos n (by omega)
  have h2 : -(k : Int) < Int.tmod n k := Int.lt_tmod_of_pos n (by omega)
  have h3 : ((k : Int) == 0) = false := by rw [beq_eq_false_iff_ne]; omega
  by_cases hneg : Int.tmod n k < 0
  · go_enter Try.func8, Try.ntmps8
    go_wp2
    go_ret
    exact ⟨⟨(Int.tmod n k + k).toNat, by omega, ret_i64 (by omega)⟩, rfl⟩
  · go_enter Try.func8, Try.ntmps8
    go_wp2
    go_ret
    exact ⟨⟨(Int.tmod n k).toNat, by omega, ret_i64 (by omega)⟩, rfl⟩

end Go.Proofs.Ytfcoidpkhggnpaa
