/-
  Contracts of ranges.Has and ranges.Count; no claim stands here.
-/
import Derived.Test.YtiacfkipkbjmjaaRng
namespace Go.Proofs.Ytiacfkipkbjmjaa
open Go.ChangeShapes Go.WideShapes Go.ChangeAt Go.RowKit Go.Sort
set_option linter.unusedVariables false
attribute [local go_sem] World.cell?_alloc_some

set_option maxHeartbeats 2000000 in
theorem searchS_any (A : Option Addr) (n cap : Nat) (l : List (Int × Int × Int)) (c t : Int) (w : World) (hv : SpS w A l) (hn : l.length = n) (hm : maySp zS l = true) (hb : n ≤ 1000) :
    Calls Try.prog 22 #[.slice A n cap, idv c t, .func (.func 23) #[] #[]] w fun e w' =>
      (∃ i : Int, e = .returned (.tuple #[.int .i64 i, .bool (memS l c t)])) ∧ Ext w w' := by
  replace hn := Lib.hid hn
  replace hv := Lib.hid hv
  replace hm := Lib.hid hm
  go_enter Try.func22, Try.ntmps22
  go_wp2
  have x0 : Ext w (w.alloc (Obj.cells #[Value.int IntKind.u32 c, Value.int IntKind.u32 t] 25)) := (Ext.refl _).alloc _
  have q0 : (w.alloc (Obj.cells #[Value.int IntKind.u32 c, Value.int IntKind.u32 t] 25)).cell? ⟨w.heap.size, 0, none⟩ = some (Vu c) := by simp [go_sem]
  have q1 : (w.alloc (Obj.cells #[Value.int IntKind.u32 c, Value.int IntKind.u32 t] 25)).cell? ⟨w.heap.size, 1, none⟩ = some (Vu t) := by simp [go_sem]
  generalize w.alloc (Obj.cells #[Value.int IntKind.u32 c, Value.int IntKind.u32 t] 25) = W0 at *
  generalize w.heap.size = pt at *
  go_loopg [9, 10] n (fun kx s9 s10 wr => ∃ lo hi : Nat, s9 = .int .i64 lo ∧ s10 = .int .i64 hi ∧ lo ≤ hi ∧ hi ≤ n ∧ hi - lo ≤ kx ∧ Ext W0 wr ∧
    Hid ((∀ j p, j < lo → l[j]? = some p → sideOf p c t < 0) ∧ (∀ j p, hi ≤ j → l[j]? = some p → 0 ≤ sideOf p c t)))
  case atStart => exact ⟨0, n, rfl, rfl, Nat.zero_le _, Nat.le_refl _, by omega, Ext.refl _, Lib.hid ⟨fun j p ht => absurd ht (Nat.not_lt_zero _), fun j p h1 h2 => by
    rw [List.getElem?_eq_none (by rw [hn.out]; exact h1)] at h2; cases h2⟩⟩
  case round =>
    obtain ⟨lo, hi, rfl, rfl, hlh, hin, hg, hx, I⟩ := hrel
    have s0 := cell_regrown (hx.keep q0)
    have s1 := cell_regrown (hx.keep q1)
    by_cases hlt : lo < hi
    · obtain ⟨b, o, x, y, z, rfl, hp, c0, c1, c2⟩ := (hv.out.ext (x0.trans hx)).at (k := (lo + hi) / 2) (by rw [hn.out]; omega)
      replace hp := Lib.hid hp
      have r0 := cell_regrown c0
      have r1 := cell_regrown c1
      have r2 := cell_regrown c2
      clear c0 c1 c2
      have hi1 : (0 : Int) ≤ ((lo : Int) + (hi : Int)) / 2 := by omega
      have hi2 : ((lo : Int) + (hi : Int)) / 2 < (n : Int) := by omega
      have hcall := fun W => side_any x y z c t W
      obtain ⟨q, hq⟩ : ∃ q, sideOf (x, y, z) c t = q := ⟨_, rfl⟩
      rw [hq] at hcall
      replace hcall := Lib.hid hcall
      obtain ⟨mid, hmid⟩ : ∃ mid : Nat, mid = (lo + hi) / 2 := ⟨_, rfl⟩
      have hmid2 : ((lo : Int) + (hi : Int)) / 2 = (mid : Int) := by omega
      have hmid3 : lo ≤ mid ∧ mid < hi := by omega
      rw [← hmid] at hp r0 r1 r2
      rw [hmid2] at hi1 hi2
      clear hmid
      replace hmid2 := Lib.hid hmid2
      by_cases hq0 : q < 0
      · have hq1 : decide (q < 0) = true := by simpa using hq0
        replace hq := Lib.hid hq
        go_wp2_with fail
        rw [hmid2.out]
        clear hmid2
        refine wp_region_quiet_below (by kernel_rfl) (by kernel_rfl) ?_
        repeat go_big_quiet_step ((with_reducible exact Calls.in_regrown (hcall.out _)))
        refine wpQuiet_nil ?_
        intro _ hw'
        obtain ⟨⟨dq, osq⟩, hw''⟩ := hw'
        subst hw''
        have x1 := Ext.regrown wr dq osq
        go_wp2
        go_roundg (hi - (mid + 1))
        case measure => omega
        case rel =>
          exact ⟨mid + 1, hi, by go_num, rfl, by omega, hin, Nat.le_refl _, hx.trans x1,
            Lib.hid ⟨fun j p hj hjp => by
              rcases Nat.lt_or_ge j mid with g | g
              · have h1 := may_pair hm.out g hjp hp.out
                have h2 : sideOf (x, y, z) c t < 0 := by rw [hq.out]; exact hq0
                rw [side_neg] at h2 ⊢
                simp only at h1 h2
                omega
              · have e : j = mid := by omega
                subst e
                rw [hp.out] at hjp
                injection hjp with hjp
                subst hjp
                rw [hq.out]; exact hq0, I.out.2⟩⟩
      · have hq1 : decide (q < 0) = false := by simpa using hq0
        replace hq := Lib.hid hq
        go_wp2_with fail
        rw [hmid2.out]
        clear hmid2
        refine wp_region_quiet_below (by kernel_rfl) (by kernel_rfl) ?_
        repeat go_big_quiet_step ((with_reducible exact Calls.in_regrown (hcall.out _)))
        refine wpQuiet_nil ?_
        intro _ hw'
        obtain ⟨⟨dq, osq⟩, hw''⟩ := hw'
        subst hw''
        have x1 := Ext.regrown wr dq osq
        go_wp2
        go_roundg (mid - lo)
        case measure => omega
        case rel =>
          exact ⟨lo, mid, rfl, rfl, by omega, by omega, Nat.le_refl _, hx.trans x1,
            Lib.hid ⟨I.out.1, fun j p hj hjp => by
              rcases Nat.lt_or_ge mid j with g | g
              · have h1 := may_pair hm.out g hp.out hjp
                have h2 : ¬ sideOf (x, y, z) c t < 0 := by rw [hq.out]; omega
                have h3 : ¬ sideOf p c t < 0 := by
                  rw [side_neg] at h2 ⊢
                  simp only at h1 h2
                  omega
                omega
              · have e : j = mid := by omega
                subst e
                rw [hp.out] at hjp
                injection hjp with hjp
                subst hjp
                rw [hq.out]; omega⟩⟩
    · obtain rfl : hi = lo := by omega
      have hf := Lib.hid (has_found (c := c) (k := t) (i := hi) hm.out I.out.1 (fun p hp => I.out.2 hi p (Nat.le_refl _) hp))
      by_cases hlt2 : hi < n
      · obtain ⟨b, o, x, y, z, rfl, hp, c0, c1, c2⟩ := (hv.out.ext (x0.trans hx)).at (k := hi) (by rw [hn.out]; exact hlt2)
        have r0 := cell_regrown c0
        have r1 := cell_regrown c1
        have r2 := cell_regrown c2
        clear c0 c1 c2
        have hi1 : (0 : Int) ≤ (hi : Int) := by omega
        have hi2 : (hi : Int) < (n : Int) := by omega
        have hi3 : decide ((hi : Int) < (n : Int)) = true := by simpa using hlt2
        have hi4 : decide (hi < n) = true := by simpa using hlt2
        have hcall := fun W => side_any x y z c t W
        have hf2 := hf.out
        rw [hp] at hf2
        simp only at hf2
        obtain ⟨q, hq⟩ : ∃ q, sideOf (x, y, z) c t = q := ⟨_, rfl⟩
        rw [hq] at hcall hf2
        replace hcall := Lib.hid hcall
        clear hp hq hf
        by_cases hq0 : q = 0
        · subst hq0
          replace hf2 := Lib.hid (show memS l c t = true by rw [hf2]; simp)
          go_wp2_with fail
          refine wp_region_quiet_below (by kernel_rfl) (by kernel_rfl) ?_
          repeat go_big_quiet_step ((with_reducible exact Calls.in_regrown (hcall.out _)))
          refine wpQuiet_nil ?_
          intro _ hw'
          obtain ⟨⟨dq, osq⟩, hw''⟩ := hw'
          subst hw''
          have x1 := Ext.regrown wr dq osq
          go_wp2
          go_ret2
          exact ⟨⟨hi, ret_ib (b := true) rfl hf2.out.symm⟩, (x0.trans hx).trans x1⟩
        · have hq1 : (q == 0) = false := by simpa using hq0
          replace hf2 := Lib.hid (show memS l c t = false by rw [hf2]; simpa using hq0)
          clear hq0
          go_wp2_with fail
          refine wp_region_quiet_below (by kernel_rfl) (by kernel_rfl) ?_
          repeat go_big_quiet_step ((with_reducible exact Calls.in_regrown (hcall.out _)))
          refine wpQuiet_nil ?_
          intro _ hw'
          obtain ⟨⟨dq, osq⟩, hw''⟩ := hw'
          subst hw''
          have x1 := Ext.regrown wr dq osq
          go_wp2
          go_ret2
          exact ⟨⟨hi, ret_ib (b := false) rfl hf2.out.symm⟩, (x0.trans hx).trans x1⟩
      · have hf2 := hf.out
        rw [List.getElem?_eq_none (by rw [hn.out]; omega)] at hf2
        replace hf2 := Lib.hid (show memS l c t = false from hf2)
        have hi4 : decide (hi < n) = false := by simpa using hlt2
        have hi3 : decide ((hi : Int) < (n : Int)) = false := by simpa using hlt2
        clear hf
        go_wp2_with fail
        refine wp_region_quiet_below (by kernel_rfl) (by kernel_rfl) ?_
        repeat go_big_quiet_step ((fail))
        refine wpQuiet_nil ?_
        intro _ hw'
        obtain ⟨⟨dq, osq⟩, hw''⟩ := hw'
        subst hw''
        have x1 := Ext.regrown wr dq osq
        go_wp2
        go_ret2
        exact ⟨⟨hi, ret_ib (b := false) rfl hf2.out.symm⟩, (x0.trans hx).trans x1⟩

theorem has_any (A : Option Addr) (n cap : Nat) (l : List (Int × Int × Int)) (c t : Int) (w : World) (hv : SpS w A l) (hn : l.length = n) (hm : maySp zS l = true) (hb : n ≤ 1000) :
    Calls Try.prog 12 #[.slice A n cap, idv c t] w fun e w' => e = .returned (.bool (memS l c t)) ∧ Ext w w' := by
  have hc := Lib.hid (searchS_any A n cap l c t (w.alloc (Obj.cells #[Value.int IntKind.u32 c, Value.int IntKind.u32 t] 25)) (hv.ext ((Ext.refl _).alloc _)) hn hm hb)
  clear hv hn hm
  generalize memS l c t = h at *
  go_enter Try.func12, Try.ntmps12
  go_wp2_with fail
  refine hc.out.mono ?_
  rintro e w1 ⟨⟨i, rfl⟩, x1⟩
  go_wp2
  go_ret
  exact ⟨rfl, ((Ext.refl _).alloc _).trans x1⟩

theorem cnt_drop {l : List (Int × Int × Int)} {k : Nat} {x y z : Int} (h : l[k]? = some (x, y, z)) : cntS (l.drop k) = (z - y) + cntS (l.drop (k + 1)) := by
  obtain ⟨hk, e⟩ := List.getElem?_eq_some_iff.1 h
  rw [List.drop_eq_getElem_cons hk, e, cntS]
theorem mayS_at {l : List (Int × Int × Int)} {k : Nat} {x y z : Int} (hm : maySp zS l = true) (h : l[k]? = some (x, y, z)) : y < z := (may_drop_at hm h).2
theorem ret_u64 {a b : Int} (h : a = b) : Ending.returned (.int .u64 a) = .returned (.int .u64 b) := by rw [h]

/-- what Count's loops keep -/
def CntRel (w : World) (n : Nat) (l : List (Int × Int × Int)) (v i : Value) (W : World) : Prop :=
  ∃ (k : Nat) (s : Int), k ≤ n ∧ i = .int .i64 k ∧ v = .int .u64 s ∧ 0 ≤ s ∧ s ≤ 4294967295 * (k : Int) ∧ Hid (s + cntS (l.drop k) = cntS l) ∧ Ext w W

set_option maxHeartbeats 1000000 in
theorem count_any (A : Option Addr) (n cap : Nat) (l : List (Int × Int × Int)) (w : World) (hv : SpS w A l) (hn : l.length = n) (hw : wfS l) (hm : maySp zS l = true) (hb : n ≤ 1000) :
    Calls Try.prog 14 #[.slice A n cap] w fun e w' => e = .returned (.int .u64 (cntS l)) ∧ Ext w w' := by
  replace hn := Lib.hid hn
  replace hv := Lib.hid hv
  replace hw := Lib.hid hw
  replace hm := Lib.hid hm
  go_enter Try.func14, Try.ntmps14
  go_wp2
  go_loopw [3, 8] (CntRel w n l) (fun _ i _ => n - (intOf i).toNat)
  case atStart => exact ⟨0, 0, Nat.zero_le _, rfl, rfl, by omega, by omega, Lib.hid (by simp), Ext.refl _⟩
  case round =>
    obtain ⟨k, s, hk, rfl, rfl, hs0, hs1, hrel, hx⟩ := hrel
    by_cases hlt : k < n
    · obtain ⟨b, o, x, y, z, rfl, hp, d0, d1, d2⟩ := hv.out.at (k := k) (by rw [hn.out]; exact hlt)
      have hwf := wfS_at hw.out hp
      have hyz := mayS_at hm.out hp
      have c0 := hx.keep d0
      have c1 := hx.keep d1
      have c2 := hx.keep d2
      have hd := Lib.hid (cnt_drop hp)
      clear hp
      have hw1 : IntKind.u32.wrap (z - y) = z - y := by simp [IntKind.wrap, IntKind.bits, IntKind.signed]; omega
      have hw2 : IntKind.u64.wrap (z - y) = z - y := by simp [IntKind.wrap, IntKind.bits, IntKind.signed]; omega
      have hw3 : IntKind.u64.wrap (s + (z - y)) = s + (z - y) := by simp [IntKind.wrap, IntKind.bits, IntKind.signed]; omega
      go_wp2
      go_roundw
      case rel => exact ⟨k + 1, s + (z - y), by omega, by go_num, by go_num, by omega, by omega, Lib.hid (by rw [← hrel.out, hd.out]; omega), hx.alloc _⟩
      case measure => simp [intOf]; omega
    · have hz := Lib.hid (show s = cntS l by rw [← hrel.out, List.drop_eq_nil_of_le (by rw [hn.out]; omega), cntS]; omega)
      go_wp2
      go_ret
      exact ⟨ret_u64 (a := s) hz.out, hx⟩

end Go.Proofs.Ytiacfkipkbjmjaa
