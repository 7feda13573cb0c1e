/-
  Errors that are Codes, and what tells their number; no claim stands here.
-/
import Derived.Test.YtfcoidpkhggnpaaBase
namespace Go.Proofs.Ytfcoidpkhggnpaa
open Go.ChangeShapes Go.WideShapes Go.ChangeAt Go.RowKit Go.Sort
set_option linter.unusedVariables false

/- an error that is a Code, 0 for none -/
def errv (c : Int) : Value := if c = 0 then .nilIface else .iface 47 (.int .i64 c)

/-- two errors that are Codes are the same where their numbers are -/
theorem err_eql (c : Int) : ∀ (x : Int) (W : World), (binOp .eql 26 (.iface 47 (.int .i64 c)) (.iface 47 (.int .i64 x))).run Try.prog W = .ok (.bool (c == x)) W := by
  intro x W
  obtain ⟨i38, h1, h2⟩ : ∃ i, Try.prog.info? 47 = some i ∧ i.comparable = true := by
    have h : (Try.prog.info? 47).map (fun i => i.comparable) = some true := by kernel_rfl
    cases hi : Try.prog.info? 47 with
    | none => rw [hi] at h; cases h
    | some i => rw [hi] at h; exact ⟨i, rfl, by simpa using h⟩
  have deep : ∀ d : Nat, (Op.equalIn (d + 2) 26 (.iface 47 (.int .i64 c)) (.iface 47 (.int .i64 x))).run Try.prog W = .ok (c == x) W := fun d => by
    simp [Op.equalIn, run_underlying Try.underlying26, run_underlying Try.underlying47, typeInfo, h1, h2]
  simp only [binOp]
  simp [Op.equal, Op.maxDepth, deep 9998]
theorem code_zero (w : World) : Calls Try.prog 7 #[.nilIface] w fun e w' => e = .returned (Vi 0) ∧ w = w' := by
  go_enter Try.func7, Try.ntmps7
  go_wp2
  go_ret
  exact ⟨rfl, rfl⟩

theorem code_some (c : Int) (w : World) (h1 : 1 ≤ c) (h6 : c ≤ 6) : Calls Try.prog 7 #[.iface 47 (.int .i64 c)] w fun e w' => e = .returned (Vi c) ∧ w = w' := by
  have heq := err_eql c
  go_enter Try.func7, Try.ntmps7
  go_wp2
  go_loop [3] (fun i => ∃ k : Int, 1 ≤ k ∧ k ≤ c ∧ i = .int .i64 k) (fun i => (c - intOf i).toNat)
  case atStart => exact ⟨1, by omega, by omega, rfl⟩
  case round =>
    obtain ⟨k, hk1, hkc, rfl⟩ := hrel
    by_cases hlt : k = c
    · subst hlt
      go_wp2
      go_ret
      exact ⟨rfl, rfl⟩
    · have h1' : (c == k) = false := by simp; omega
      go_wp2
      go_round
      case rel => exact ⟨k + 1, by omega, by omega, rfl⟩
      case measure => simp [intOf]; omega

theorem code_any (c : Int) (w : World) (h0 : 0 ≤ c) (h6 : c ≤ 6) : Calls Try.prog 7 #[errv c] w fun e w' => e = .returned (Vi c) ∧ w = w' := by
  by_cases h : c = 0
  · subst h; exact code_zero w
  · simp only [errv, if_neg h]; exact code_some c w (by omega) h6

end Go.Proofs.Ytfcoidpkhggnpaa
