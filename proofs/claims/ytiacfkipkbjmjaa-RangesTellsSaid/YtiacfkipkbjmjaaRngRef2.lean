/-
  Contract of the reference's MaySet; no claim stands here.
-/
import Derived.Test.YtiacfkipkbjmjaaRngMay
namespace Go.Proofs.Ytiacfkipkbjmjaa
open Go.ChangeShapes Go.WideShapes Go.ChangeAt Go.RowKit Go.Sort
set_option linter.unusedVariables false

set_option maxHeartbeats 2000000 in
theorem maySetRef_any (A : Option Addr) (n cap : Nat) (l : List (Int × Int × Int)) (w : World) (hv : SpS w A l) (hn : l.length = n) (hw : wfS l) (hb : n ≤ 1000) :
    Calls Try.prog 10 #[.slice A n cap] w fun e w' => e = .returned (.bool (maySp zS l)) ∧ Ext w w' := by
  replace hn := Lib.hid hn
  replace hv := Lib.hid hv
  replace hw := Lib.hid hw
  go_enter Try.func10, Try.ntmps10
  go_wp2
  go_loopw [3] (fun i W => ∃ (k : Nat), k ≤ n ∧ i = .int .i64 k ∧ Hid (maySp zS l = maySp (aheadS l k) (l.drop k)) ∧ Ext w W) (fun i _ => n - (intOf i).toNat)
  case atStart => exact ⟨0, Nat.zero_le _, rfl, Lib.hid (by simp [aheadS]), Ext.refl _⟩
  case round =>
    obtain ⟨k, hk, rfl, hrel, hx⟩ := hrel
    by_cases hlt : k < n
    · obtain ⟨b, o, x, y, z, rfl, hp, c0, c1, c2⟩ := (hv.out.ext hx).at (k := k) (by rw [hn.out]; exact hlt)
      have hwf := wfS_at hw.out hp
      replace hp := Lib.hid hp
      by_cases h0 : x = 0
      · subst h0
        have hd := Lib.hid (mayS_bad hp.out (by rw [good_not]; simp only; omega) (aheadS l k))
        go_wp2
        go_quiet (fail)
        go_wp2
        go_ret
        exact ⟨ret_bool (a := false) (by rw [hrel.out, hd.out]), hx.drewN _⟩
      · have g0 : (x == 0) = false := by simpa using h0
        by_cases h1 : z ≤ y
        · have hd := Lib.hid (mayS_bad hp.out (by rw [good_not]; simp only; omega) (aheadS l k))
          have g1 : decide (z ≤ y) = true := by simpa using h1
          go_wp2
          go_quiet (fail)
          go_wp2
          go_ret
          exact ⟨ret_bool (a := false) (by rw [hrel.out, hd.out]), hx.drewN _⟩
        · have g1 : decide (z ≤ y) = false := by simpa using h1
          have hgo : goodB (x, y, z) = true := by rw [good_iff]; simp only; omega
          clear h1
          cases k with
          | zero =>
            have hd := Lib.hid (mayS_first hp.out hgo)
            clear hgo
            simp only [Nat.zero_mul, Nat.add_zero] at c0 c1 c2
            go_wp2
            go_quiet (fail)
            go_wp2
            go_roundw
            case rel => exact ⟨0 + 1, by omega, by go_num, Lib.hid (by rw [hrel.out, hd.out]), hx.drewN _⟩
            case measure => simp [intOf]; omega
          | succ k =>
            obtain ⟨b', o', x', y', z', e, hq, c0', c1', c2'⟩ := (hv.out.ext hx).at (k := k) (by rw [hn.out]; omega)
            injection e with e
            injection e with e1 e2
            subst e1
            subst e2
            have hsub : IntKind.i64.wrap (((k + 1 : Nat) : Int) - 1) = (k : Int) := by rw [show (((k + 1 : Nat) : Int) - 1) = (k : Int) by omega]; exact IntWalk.i64_in _ (by omega)
            have hi1 : (0 : Int) ≤ (k : Int) := by omega
            have hi2 : (k : Int) < (n : Int) := by omega
            have hz : (((k + 1 : Nat) : Int) == 0) = false := by simp; omega
            have hd := Lib.hid (mayS_next hp.out hq hgo)
            clear hgo
            by_cases h2 : x < x'
            · have hd' := Lib.hid (show maySp (aheadS l (k + 1)) (l.drop (k + 1)) = false by rw [hd.out, apart_not.2 (by simp only; omega), Bool.false_and])
              have g2 : decide (x < x') = true := by simpa using h2
              clear hd hq
              go_wp2
              go_quiet (fail)
              go_wp2
              go_quiet (fail)
              go_wp2
              go_ret
              exact ⟨ret_bool (a := false) (by rw [hrel.out, hd'.out]), (hx.drewN _).drewN _⟩
            · have g2 : decide (x < x') = false := by simpa using h2
              by_cases h3 : x = x'
              · subst h3
                clear h2
                by_cases h4 : y ≤ z'
                · have hd' := Lib.hid (show maySp (aheadS l (k + 1)) (l.drop (k + 1)) = false by rw [hd.out, apart_not.2 (by simp only; omega), Bool.false_and])
                  have g4 : decide (y ≤ z') = true := by simpa using h4
                  clear hd hq
                  go_wp2
                  go_quiet (fail)
                  go_wp2
                  go_quiet (fail)
                  go_wp2
                  go_ret
                  exact ⟨ret_bool (a := false) (by rw [hrel.out, hd'.out]), (hx.drewN _).drewN _⟩
                · have hd' := Lib.hid (show maySp (aheadS l (k + 1)) (l.drop (k + 1)) = maySp (aheadS l (k + 1 + 1)) (l.drop (k + 1 + 1)) by rw [hd.out, (apart_iff (a := (x, y', z')) (b := (x, y, z))).2 (.inr ⟨rfl, by simp only; omega⟩), Bool.true_and])
                  have g4 : decide (y ≤ z') = false := by simpa using h4
                  clear hd hq h4
                  go_wp2
                  go_quiet (fail)
                  go_wp2
                  go_quiet (fail)
                  go_wp2
                  go_roundw
                  case rel => exact ⟨k + 1 + 1, by omega, by go_num, Lib.hid (by rw [hrel.out, hd'.out]), hx.drewN _⟩
                  case measure => simp [intOf]; omega
              · have hd' := Lib.hid (show maySp (aheadS l (k + 1)) (l.drop (k + 1)) = maySp (aheadS l (k + 1 + 1)) (l.drop (k + 1 + 1)) by rw [hd.out, apart_iff.2 (by simp only; omega), Bool.true_and])
                have g3 : (x == x') = false := by simpa using h3
                clear hd hq h2 h3
                go_wp2
                go_quiet (fail)
                go_wp2
                go_quiet (fail)
                go_wp2
                go_roundw
                case rel => exact ⟨k + 1 + 1, by omega, by go_num, Lib.hid (by rw [hrel.out, hd'.out]), hx.drewN _⟩
                case measure => simp [intOf]; omega
    · have hz := Lib.hid (show maySp (aheadS l k) (l.drop k) = true from mayS_end (by rw [hn.out]; omega) _)
      go_wp2
      go_ret
      exact ⟨ret_bool (a := true) (by rw [hrel.out, hz.out]), hx⟩

end Go.Proofs.Ytiacfkipkbjmjaa
