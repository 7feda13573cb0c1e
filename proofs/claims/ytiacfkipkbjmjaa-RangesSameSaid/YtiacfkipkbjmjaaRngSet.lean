/-
  Contract of the reference's SetOf; no claim stands here.
-/
import Derived.Test.YtiacfkipkbjmjaaRngLay
namespace Go.Proofs.Ytiacfkipkbjmjaa
open Go.ChangeShapes Go.WideShapes Go.ChangeAt Go.RowKit Go.Sort
set_option linter.unusedVariables false

/-- what the loop of SetOf keeps -/
def SetRelS (w : World) (n : Nat) (l : List (Int × Int × Int)) (o i : Value) (W : World) : Prop :=
  ∃ (k : Nat) (lo : List (Int × Int × Int)) (A : Option Addr) (q c : Nat), k ≤ n ∧ i = .int .i64 k ∧ o = .slice A q c ∧ Hid (lo.length = q) ∧ q ≤ k ∧ q ≤ c ∧ Hid (SpS W A lo) ∧ Hid (maySp zS lo = true) ∧ Ext w W ∧ Hid (setGo lo (l.drop k) = setOfS l)

set_option maxHeartbeats 2000000 in
theorem setOfRef_any (A : Option Addr) (n cap : Nat) (l : List (Int × Int × Int)) (w : World) (hv : SpS w A l) (hn : l.length = n) (hw : wfS l) (hb : n ≤ 1000) :
    Calls Try.prog 6 #[.slice A n cap] w (RetS w (setOfS l)) := by
  replace hn := Lib.hid hn
  replace hv := Lib.hid hv
  replace hw := Lib.hid hw
  go_enter Try.func6, Try.ntmps6
  go_wp2
  go_loopw [3, 4] (SetRelS w n l) (fun _ i _ => n - (intOf i).toNat)
  case atStart => exact ⟨0, [], none, 0, 0, Nat.zero_le _, rfl, rfl, Lib.hid rfl, Nat.le_refl _, Nat.le_refl _, Lib.hid (SpS.nil _ _), Lib.hid rfl, Ext.refl _, Lib.hid rfl⟩
  case round =>
    obtain ⟨k, lo, A1, q, c, hk, rfl, rfl, hq, hqk, hqc, hv1, hlo, hx, hrel⟩ := hrel
    by_cases hlt : k < n
    · obtain ⟨b, o, x, y, z, rfl, hp, c0, c1, c2⟩ := (hv.out.ext hx).at (k := k) (by rw [hn.out]; exact hlt)
      have hwf := wfS_at hw.out hp
      have hr := hrel.out
      rw [drop_at hp, setGo_cons] at hr
      clear hp hrel
      by_cases h0 : x = 0
      · subst h0
        have hd := Lib.hid (show setGo lo (l.drop (k + 1)) = setOfS l by rw [← hr, good_not.2 (by simp only; omega)]; rfl)
        clear hr
        go_wp2
        go_quiet (fail)
        go_wp2
        go_roundw
        case rel => exact ⟨k + 1, lo, A1, q, c, by omega, by go_num, rfl, hq, by omega, hqc, Lib.hid (hv1.out.ext ((Ext.refl _).drewN _)), hlo, hx.drewN _, hd⟩
        case measure => simp [intOf]; omega
      · have g0 : (x != 0) = true := by simpa using h0
        by_cases h1 : y < z
        · have g1 : decide (y < z) = true := by simpa using h1
          have hd := Lib.hid (show setGo (layOf lo (x, y, z)) (l.drop (k + 1)) = setOfS l by rw [← hr, good_iff.2 (by simp only; omega)]; rfl)
          have hm2 := Lib.hid (lay_may (s := (x, y, z)) hlo.out (.inl (show (0 : Int) < x by omega)) (by simp only; omega) h1)
          have hl2 := lay_len lo (x, y, z)
          rw [hq.out] at hl2
          clear hr h0
          go_wp2
          go_quiet (fail)
          have x2 : Ext wr (wr.drewN nq) := (Ext.refl _).drewN _
          have hcall := Lib.hid (lay_any A1 q c lo x y z (wr.drewN nq) (hv1.out.ext x2) hq.out hlo.out h1 (by omega))
          replace c0 := x2.keep c0
          replace c1 := x2.keep c1
          replace c2 := x2.keep c2
          replace hx := hx.trans x2
          clear x2
          generalize wr.drewN nq = W2 at *
          generalize layOf lo (x, y, z) = lo2 at *
          go_wp2_with fail
          refine hcall.out.mono ?_
          rintro e w3 ⟨A3, q3, c3, rfl, hq3, hc3, hv3, x3⟩
          rw [hq3] at hl2
          replace hq3 := Lib.hid hq3
          replace hv3 := Lib.hid hv3
          go_wp2
          go_roundw
          case rel => exact ⟨k + 1, lo2, A3, q3, c3, by omega, by go_num, rfl, hq3, by omega, hc3, hv3, hm2, hx.trans x3, hd⟩
          case measure => simp [intOf]; omega
        · have g1 : decide (y < z) = false := by simpa using h1
          have hd := Lib.hid (show setGo lo (l.drop (k + 1)) = setOfS l by rw [← hr, good_not.2 (by simp only; omega)]; rfl)
          clear hr h1
          go_wp2
          go_quiet (fail)
          go_wp2
          go_roundw
          case rel => exact ⟨k + 1, lo, A1, q, c, by omega, by go_num, rfl, hq, by omega, hqc, Lib.hid (hv1.out.ext ((Ext.refl _).drewN _)), hlo, hx.drewN _, hd⟩
          case measure => simp [intOf]; omega
    · have hd := Lib.hid (show lo = setOfS l by
        rw [← hrel.out, List.drop_eq_nil_of_le (by rw [hn.out]; omega)]; rfl)
      go_wp2
      go_ret
      exact ⟨A1, q, c, rfl, by rw [← hd.out]; exact hq.out, hqc, by rw [← hd.out]; exact hv1.out, hx⟩

end Go.Proofs.Ytiacfkipkbjmjaa
