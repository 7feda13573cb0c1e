/-
  Several texts of this seat in one file, each in the namespace again; no claim stands here.
-/
import Derived.Deep.DeepCutAuto
import Derived.Room.AppendUpon
import Derived.Deep.RegionHeld
import Derived.Test.YtmpomammieenjaaOT
import Derived.Test.YtmpomammieenjaaOS
import Derived.Test.YtmpomammieenjaaLMath
namespace Go.Proofs.Ytmpomammieenjaa
open Go.ChangeShapes Go.WideShapes Go.ChangeAt Go.RowKit Go.Sort
set_option linter.unusedVariables false
set_option linter.unusedSimpArgs false
attribute [local go_sem] World.cell?_alloc_some

theorem HgS.newAt {W : World} {s : Nat} (x : Hg) (h : W.heap.size = s) : HgS (W.alloc (.cells #[.int .u32 x.on.1, .int .u32 x.on.2, .bool x.right] 124)) (some ⟨s, 0, none⟩) [x] := h ▸ HgS.new W x
end Go.Proofs.Ytmpomammieenjaa

namespace Go.Proofs.Ytmpomammieenjaa
open Go.ChangeShapes Go.WideShapes Go.ChangeAt Go.RowKit Go.Sort
set_option linter.unusedVariables false
set_option linter.unusedSimpArgs false
attribute [local go_sem] World.cell?_alloc_some

theorem knownG_drop {l : List It} {j : Nat} {x : It} (hp : l[j]? = some x) : knownG (l.take j) (l.drop j) = (knownX (l.take j) x && knownG (l.take (j + 1)) (l.drop (j + 1))) := by
  rw [drop_get hp, knownG, take_get hp]
theorem fndV_yes {l : List It} {a : I2} (h : hasI l a = true) : decide (0 ≤ fndV l a) = true ∧ decide (fndV l a < 0) = false := by
  have : ¬ fndV l a < 0 := fun e => by rw [fndV_neg.1 e] at h; cases h
  exact ⟨decide_eq_true (by omega), decide_eq_false this⟩
theorem fndV_no {l : List It} {a : I2} (h : hasI l a = false) : decide (0 ≤ fndV l a) = false ∧ decide (fndV l a < 0) = true := by
  have := fndV_neg.2 h
  exact ⟨decide_eq_false (by omega), decide_eq_true this⟩

set_option maxRecDepth 100000 in
set_option maxHeartbeats 16000000 in
theorem known_ref (A : Option Addr) (n cap : Nat) (l : List It) (w : World) (hv : ItS w A l) (hn : l.length = n) (hcp : n ≤ cap) (hb : n ≤ 1000000000000000) :
    Calls Try.prog 42 #[.slice A n cap] w fun e w' => e = .returned (.bool (knownI l)) ∧ Ext w w' := by
  obtain ⟨R, hR⟩ : ∃ R : Bool, knownI l = R := ⟨_, rfl⟩
  rw [hR]
  have hR0 := Lib.hid (show knownG (l.take 0) (l.drop 0) = R from hR)
  clear hR
  replace hn := Lib.hid hn
  replace hv := Lib.hid hv
  go_enter Try.func42, Try.ntmps42
  go_wp2
  go_loopw [3] (fun i W => ∃ (j : Nat), j ≤ n ∧ i = Vi j ∧ Hid (knownG (l.take j) (l.drop j) = R) ∧ Ext w W) (fun i _ => n - (intOf i).toNat)
  case atStart => exact ⟨0, Nat.zero_le _, rfl, hR0, Ext.refl _⟩
  case round =>
    clear hR0
    obtain ⟨j, hj, rfl, hrel, hx⟩ := hrel
    by_cases hlt : j < n
    · obtain ⟨b, o, x, hA, hp, d⟩ := (hv.out.ext hx).at (k := j) (by rw [hn.out]; exact hlt)
      obtain ⟨c0, c1, c2, c3, c4, c5, c6⟩ := d
      have hi1 : (0 : Int) ≤ (j : Int) := by omega
      have hi2 : (j : Int) < (n : Int) := by omega
      have hup := fun W : World => uptoI A n cap j (by omega) (j : Int) rfl W
      have htl : (l.take j).length = j := by rw [List.length_take, hn.out]; omega
      have hst := Lib.hid (knownG_drop hp)
      have hcall := Lib.hid (fun (a k : Int) (W : World) (hW : Ext wr W) => find_ref A j cap (l.take j) a k W ((hv.out.ext (hx.trans hW)).take j) htl (by omega))
      subst hA
      clear hp htl
      have hkx : knownX (l.take j) x = (decide (x.c ≠ 0) && !hasI (l.take j) (x.c, x.k) && (decide (x.lc = 0) || hasI (l.take j) (x.lc, x.lk)) && (decide (x.rc = 0) || hasI (l.take j) (x.rc, x.rk))) := rfl
      generalize knownG (l.take j) (l.drop j) = kj at *
      generalize knownX (l.take j) x = kx at *
      by_cases e0 : x.c = 0
      · have g0 : (x.c == 0) = true := by simpa using e0
        replace hkx := Lib.hid (show kx = false by rw [hkx]; simp [e0])
        replace hst := Lib.hid (show kj = false by rw [hst.out, hkx.out]; simp)
        clear hkx e0
        go_wp2_with fail
        have q0 : (wr.alloc (.cells #[.int .u32 x.c, .int .u32 x.k, .int .u32 x.lc, .int .u32 x.lk, .int .u32 x.rc, .int .u32 x.rk, .int .i32 x.ch] 43)).cell? ⟨wr.heap.size, 0, none⟩ = some (Vu x.c) := by simp [go_sem]
        have q1 : (wr.alloc (.cells #[.int .u32 x.c, .int .u32 x.k, .int .u32 x.lc, .int .u32 x.lk, .int .u32 x.rc, .int .u32 x.rk, .int .i32 x.ch] 43)).cell? ⟨wr.heap.size, 1, none⟩ = some (Vu x.k) := by simp [go_sem]
        have q2 : (wr.alloc (.cells #[.int .u32 x.c, .int .u32 x.k, .int .u32 x.lc, .int .u32 x.lk, .int .u32 x.rc, .int .u32 x.rk, .int .i32 x.ch] 43)).cell? ⟨wr.heap.size, 2, none⟩ = some (Vu x.lc) := by simp [go_sem]
        have q3 : (wr.alloc (.cells #[.int .u32 x.c, .int .u32 x.k, .int .u32 x.lc, .int .u32 x.lk, .int .u32 x.rc, .int .u32 x.rk, .int .i32 x.ch] 43)).cell? ⟨wr.heap.size, 3, none⟩ = some (Vu x.lk) := by simp [go_sem]
        have q4 : (wr.alloc (.cells #[.int .u32 x.c, .int .u32 x.k, .int .u32 x.lc, .int .u32 x.lk, .int .u32 x.rc, .int .u32 x.rk, .int .i32 x.ch] 43)).cell? ⟨wr.heap.size, 4, none⟩ = some (Vu x.rc) := by simp [go_sem]
        have q5 : (wr.alloc (.cells #[.int .u32 x.c, .int .u32 x.k, .int .u32 x.lc, .int .u32 x.lk, .int .u32 x.rc, .int .u32 x.rk, .int .i32 x.ch] 43)).cell? ⟨wr.heap.size, 5, none⟩ = some (Vu x.rk) := by simp [go_sem]
        have x1 : Ext wr (wr.alloc (.cells #[.int .u32 x.c, .int .u32 x.k, .int .u32 x.lc, .int .u32 x.lk, .int .u32 x.rc, .int .u32 x.rk, .int .i32 x.ch] 43)) := (Ext.refl _).alloc _
        generalize wr.alloc (.cells #[.int .u32 x.c, .int .u32 x.k, .int .u32 x.lc, .int .u32 x.lk, .int .u32 x.rc, .int .u32 x.rk, .int .i32 x.ch] 43) = W at *
        generalize wr.heap.size = py at *
        replace q0 := cell_regrown q0
        replace q1 := cell_regrown q1
        replace q2 := cell_regrown q2
        replace q3 := cell_regrown q3
        replace q4 := cell_regrown q4
        replace q5 := cell_regrown q5
        refine wp_region_quiet_below (by kernel_rfl) (by kernel_rfl) ?_
        repeat go_big_quiet_step ((with_reducible exact Calls.in_regrown (hcall.out _ _ _ (x1.trans (Ext.regrown _ _ _)))))
        refine wpQuiet_nil ?_
        intro _ hw'
        obtain ⟨⟨dq, osq⟩, hw''⟩ := hw'
        subst hw''
        go_wp2
        go_ret
        exact ⟨ret_bool (by rw [← hrel.out, hst.out]), (hx.trans x1).trans (Ext.regrown _ _ _)⟩
      have g0 : (x.c == 0) = false := by simpa using e0
      cases h1 : hasI (l.take j) (x.c, x.k) with
      | true =>
        obtain ⟨g1, _⟩ := fndV_yes h1
        replace hkx := Lib.hid (show kx = false by rw [hkx]; simp [h1])
        replace hst := Lib.hid (show kj = false by rw [hst.out, hkx.out]; simp)
        clear hkx e0
        go_wp2_with fail
        have q0 : (wr.alloc (.cells #[.int .u32 x.c, .int .u32 x.k, .int .u32 x.lc, .int .u32 x.lk, .int .u32 x.rc, .int .u32 x.rk, .int .i32 x.ch] 43)).cell? ⟨wr.heap.size, 0, none⟩ = some (Vu x.c) := by simp [go_sem]
        have q1 : (wr.alloc (.cells #[.int .u32 x.c, .int .u32 x.k, .int .u32 x.lc, .int .u32 x.lk, .int .u32 x.rc, .int .u32 x.rk, .int .i32 x.ch] 43)).cell? ⟨wr.heap.size, 1, none⟩ = some (Vu x.k) := by simp [go_sem]
        have q2 : (wr.alloc (.cells #[.int .u32 x.c, .int .u32 x.k, .int .u32 x.lc, .int .u32 x.lk, .int .u32 x.rc, .int .u32 x.rk, .int .i32 x.ch] 43)).cell? ⟨wr.heap.size, 2, none⟩ = some (Vu x.lc) := by simp [go_sem]
        have q3 : (wr.alloc (.cells #[.int .u32 x.c, .int .u32 x.k, .int .u32 x.lc, .int .u32 x.lk, .int .u32 x.rc, .int .u32 x.rk, .int .i32 x.ch] 43)).cell? ⟨wr.heap.size, 3, none⟩ = some (Vu x.lk) := by simp [go_sem]
        have q4 : (wr.alloc (.cells #[.int .u32 x.c, .int .u32 x.k, .int .u32 x.lc, .int .u32 x.lk, .int .u32 x.rc, .int .u32 x.rk, .int .i32 x.ch] 43)).cell? ⟨wr.heap.size, 4, none⟩ = some (Vu x.rc) := by simp [go_sem]
        have q5 : (wr.alloc (.cells #[.int .u32 x.c, .int .u32 x.k, .int .u32 x.lc, .int .u32 x.lk, .int .u32 x.rc, .int .u32 x.rk, .int .i32 x.ch] 43)).cell? ⟨wr.heap.size, 5, none⟩ = some (Vu x.rk) := by simp [go_sem]
        have x1 : Ext wr (wr.alloc (.cells #[.int .u32 x.c, .int .u32 x.k, .int .u32 x.lc, .int .u32 x.lk, .int .u32 x.rc, .int .u32 x.rk, .int .i32 x.ch] 43)) := (Ext.refl _).alloc _
        generalize wr.alloc (.cells #[.int .u32 x.c, .int .u32 x.k, .int .u32 x.lc, .int .u32 x.lk, .int .u32 x.rc, .int .u32 x.rk, .int .i32 x.ch] 43) = W at *
        generalize wr.heap.size = py at *
        replace q0 := cell_regrown q0
        replace q1 := cell_regrown q1
        replace q2 := cell_regrown q2
        replace q3 := cell_regrown q3
        replace q4 := cell_regrown q4
        replace q5 := cell_regrown q5
        refine wp_region_quiet_below (by kernel_rfl) (by kernel_rfl) ?_
        repeat go_big_quiet_step ((with_reducible exact Calls.in_regrown (hcall.out _ _ _ (x1.trans (Ext.regrown _ _ _)))))
        refine wpQuiet_nil ?_
        intro _ hw'
        obtain ⟨⟨dq, osq⟩, hw''⟩ := hw'
        subst hw''
        go_wp2
        go_ret
        exact ⟨ret_bool (by rw [← hrel.out, hst.out]), (hx.trans x1).trans (Ext.regrown _ _ _)⟩
      | false =>
        obtain ⟨g1, _⟩ := fndV_no h1
        by_cases e2 : x.lc = 0
        · have g2 : (x.lc != 0) = false := by simpa using e2
          by_cases e3 : x.rc = 0
          · have g3 : (x.rc != 0) = false := by simpa using e3
            replace hkx := Lib.hid (show kx = true by rw [hkx]; simp [e0, h1, e2, e3])
            replace hst := Lib.hid (show kj = knownG (l.take (j + 1)) (l.drop (j + 1)) by rw [hst.out, hkx.out]; simp)
            clear hkx e0 e2 e3
            go_wp2_with fail
            have q0 : (wr.alloc (.cells #[.int .u32 x.c, .int .u32 x.k, .int .u32 x.lc, .int .u32 x.lk, .int .u32 x.rc, .int .u32 x.rk, .int .i32 x.ch] 43)).cell? ⟨wr.heap.size, 0, none⟩ = some (Vu x.c) := by simp [go_sem]
            have q1 : (wr.alloc (.cells #[.int .u32 x.c, .int .u32 x.k, .int .u32 x.lc, .int .u32 x.lk, .int .u32 x.rc, .int .u32 x.rk, .int .i32 x.ch] 43)).cell? ⟨wr.heap.size, 1, none⟩ = some (Vu x.k) := by simp [go_sem]
            have q2 : (wr.alloc (.cells #[.int .u32 x.c, .int .u32 x.k, .int .u32 x.lc, .int .u32 x.lk, .int .u32 x.rc, .int .u32 x.rk, .int .i32 x.ch] 43)).cell? ⟨wr.heap.size, 2, none⟩ = some (Vu x.lc) := by simp [go_sem]
            have q3 : (wr.alloc (.cells #[.int .u32 x.c, .int .u32 x.k, .int .u32 x.lc, .int .u32 x.lk, .int .u32 x.rc, .int .u32 x.rk, .int .i32 x.ch] 43)).cell? ⟨wr.heap.size, 3, none⟩ = some (Vu x.lk) := by simp [go_sem]
            have q4 : (wr.alloc (.cells #[.int .u32 x.c, .int .u32 x.k, .int .u32 x.lc, .int .u32 x.lk, .int .u32 x.rc, .int .u32 x.rk, .int .i32 x.ch] 43)).cell? ⟨wr.heap.size, 4, none⟩ = some (Vu x.rc) := by simp [go_sem]
            have q5 : (wr.alloc (.cells #[.int .u32 x.c, .int .u32 x.k, .int .u32 x.lc, .int .u32 x.lk, .int .u32 x.rc, .int .u32 x.rk, .int .i32 x.ch] 43)).cell? ⟨wr.heap.size, 5, none⟩ = some (Vu x.rk) := by simp [go_sem]
            have x1 : Ext wr (wr.alloc (.cells #[.int .u32 x.c, .int .u32 x.k, .int .u32 x.lc, .int .u32 x.lk, .int .u32 x.rc, .int .u32 x.rk, .int .i32 x.ch] 43)) := (Ext.refl _).alloc _
            generalize wr.alloc (.cells #[.int .u32 x.c, .int .u32 x.k, .int .u32 x.lc, .int .u32 x.lk, .int .u32 x.rc, .int .u32 x.rk, .int .i32 x.ch] 43) = W at *
            generalize wr.heap.size = py at *
            replace q0 := cell_regrown q0
            replace q1 := cell_regrown q1
            replace q2 := cell_regrown q2
            replace q3 := cell_regrown q3
            replace q4 := cell_regrown q4
            replace q5 := cell_regrown q5
            refine wp_region_quiet_below (by kernel_rfl) (by kernel_rfl) ?_
            repeat go_big_quiet_step ((with_reducible exact Calls.in_regrown (hcall.out _ _ _ (x1.trans (Ext.regrown _ _ _)))))
            refine wpQuiet_nil ?_
            intro _ hw'
            obtain ⟨⟨dq, osq⟩, hw''⟩ := hw'
            subst hw''
            go_wp2
            go_roundw
            case rel => exact ⟨j + 1, by omega, by go_num, Lib.hid (by rw [← hst.out, hrel.out]), (hx.trans x1).trans (Ext.regrown _ _ _)⟩
            case measure => simp [intOf]; omega
          have g3 : (x.rc != 0) = true := by simpa using e3
          cases h3 : hasI (l.take j) (x.rc, x.rk) with
          | true =>
            obtain ⟨_, g4⟩ := fndV_yes h3
            replace hkx := Lib.hid (show kx = true by rw [hkx]; simp [e0, h1, e2, h3])
            replace hst := Lib.hid (show kj = knownG (l.take (j + 1)) (l.drop (j + 1)) by rw [hst.out, hkx.out]; simp)
            clear hkx e0 e2 e3
            go_wp2_with fail
            have q0 : (wr.alloc (.cells #[.int .u32 x.c, .int .u32 x.k, .int .u32 x.lc, .int .u32 x.lk, .int .u32 x.rc, .int .u32 x.rk, .int .i32 x.ch] 43)).cell? ⟨wr.heap.size, 0, none⟩ = some (Vu x.c) := by simp [go_sem]
            have q1 : (wr.alloc (.cells #[.int .u32 x.c, .int .u32 x.k, .int .u32 x.lc, .int .u32 x.lk, .int .u32 x.rc, .int .u32 x.rk, .int .i32 x.ch] 43)).cell? ⟨wr.heap.size, 1, none⟩ = some (Vu x.k) := by simp [go_sem]
            have q2 : (wr.alloc (.cells #[.int .u32 x.c, .int .u32 x.k, .int .u32 x.lc, .int .u32 x.lk, .int .u32 x.rc, .int .u32 x.rk, .int .i32 x.ch] 43)).cell? ⟨wr.heap.size, 2, none⟩ = some (Vu x.lc) := by simp [go_sem]
            have q3 : (wr.alloc (.cells #[.int .u32 x.c, .int .u32 x.k, .int .u32 x.lc, .int .u32 x.lk, .int .u32 x.rc, .int .u32 x.rk, .int .i32 x.ch] 43)).cell? ⟨wr.heap.size, 3, none⟩ = some (Vu x.lk) := by simp [go_sem]
            have q4 : (wr.alloc (.cells #[.int .u32 x.c, .int .u32 x.k, .int .u32 x.lc, .int .u32 x.lk, .int .u32 x.rc, .int .u32 x.rk, .int .i32 x.ch] 43)).cell? ⟨wr.heap.size, 4, none⟩ = some (Vu x.rc) := by simp [go_sem]
            have q5 : (wr.alloc (.cells #[.int .u32 x.c, .int .u32 x.k, .int .u32 x.lc, .int .u32 x.lk, .int .u32 x.rc, .int .u32 x.rk, .int .i32 x.ch] 43)).cell? ⟨wr.heap.size, 5, none⟩ = some (Vu x.rk) := by simp [go_sem]
            have x1 : Ext wr (wr.alloc (.cells #[.int .u32 x.c, .int .u32 x.k, .int .u32 x.lc, .int .u32 x.lk, .int .u32 x.rc, .int .u32 x.rk, .int .i32 x.ch] 43)) := (Ext.refl _).alloc _
            generalize wr.alloc (.cells #[.int .u32 x.c, .int .u32 x.k, .int .u32 x.lc, .int .u32 x.lk, .int .u32 x.rc, .int .u32 x.rk, .int .i32 x.ch] 43) = W at *
            generalize wr.heap.size = py at *
            replace q0 := cell_regrown q0
            replace q1 := cell_regrown q1
            replace q2 := cell_regrown q2
            replace q3 := cell_regrown q3
            replace q4 := cell_regrown q4
            replace q5 := cell_regrown q5
            refine wp_region_quiet_below (by kernel_rfl) (by kernel_rfl) ?_
            repeat go_big_quiet_step ((with_reducible exact Calls.in_regrown (hcall.out _ _ _ (x1.trans (Ext.regrown _ _ _)))))
            refine wpQuiet_nil ?_
            intro _ hw'
            obtain ⟨⟨dq, osq⟩, hw''⟩ := hw'
            subst hw''
            go_wp2
            go_roundw
            case rel => exact ⟨j + 1, by omega, by go_num, Lib.hid (by rw [← hst.out, hrel.out]), (hx.trans x1).trans (Ext.regrown _ _ _)⟩
            case measure => simp [intOf]; omega
          | false =>
            obtain ⟨_, g4⟩ := fndV_no h3
            replace hkx := Lib.hid (show kx = false by rw [hkx]; simp [e0, h1, e2, e3, h3])
            replace hst := Lib.hid (show kj = false by rw [hst.out, hkx.out]; simp)
            clear hkx e0 e2 e3
            go_wp2_with fail
            have q0 : (wr.alloc (.cells #[.int .u32 x.c, .int .u32 x.k, .int .u32 x.lc, .int .u32 x.lk, .int .u32 x.rc, .int .u32 x.rk, .int .i32 x.ch] 43)).cell? ⟨wr.heap.size, 0, none⟩ = some (Vu x.c) := by simp [go_sem]
            have q1 : (wr.alloc (.cells #[.int .u32 x.c, .int .u32 x.k, .int .u32 x.lc, .int .u32 x.lk, .int .u32 x.rc, .int .u32 x.rk, .int .i32 x.ch] 43)).cell? ⟨wr.heap.size, 1, none⟩ = some (Vu x.k) := by simp [go_sem]
            have q2 : (wr.alloc (.cells #[.int .u32 x.c, .int .u32 x.k, .int .u32 x.lc, .int .u32 x.lk, .int .u32 x.rc, .int .u32 x.rk, .int .i32 x.ch] 43)).cell? ⟨wr.heap.size, 2, none⟩ = some (Vu x.lc) := by simp [go_sem]
            have q3 : (wr.alloc (.cells #[.int .u32 x.c, .int .u32 x.k, .int .u32 x.lc, .int .u32 x.lk, .int .u32 x.rc, .int .u32 x.rk, .int .i32 x.ch] 43)).cell? ⟨wr.heap.size, 3, none⟩ = some (Vu x.lk) := by simp [go_sem]
            have q4 : (wr.alloc (.cells #[.int .u32 x.c, .int .u32 x.k, .int .u32 x.lc, .int .u32 x.lk, .int .u32 x.rc, .int .u32 x.rk, .int .i32 x.ch] 43)).cell? ⟨wr.heap.size, 4, none⟩ = some (Vu x.rc) := by simp [go_sem]
            have q5 : (wr.alloc (.cells #[.int .u32 x.c, .int .u32 x.k, .int .u32 x.lc, .int .u32 x.lk, .int .u32 x.rc, .int .u32 x.rk, .int .i32 x.ch] 43)).cell? ⟨wr.heap.size, 5, none⟩ = some (Vu x.rk) := by simp [go_sem]
            have x1 : Ext wr (wr.alloc (.cells #[.int .u32 x.c, .int .u32 x.k, .int .u32 x.lc, .int .u32 x.lk, .int .u32 x.rc, .int .u32 x.rk, .int .i32 x.ch] 43)) := (Ext.refl _).alloc _
            generalize wr.alloc (.cells #[.int .u32 x.c, .int .u32 x.k, .int .u32 x.lc, .int .u32 x.lk, .int .u32 x.rc, .int .u32 x.rk, .int .i32 x.ch] 43) = W at *
            generalize wr.heap.size = py at *
            replace q0 := cell_regrown q0
            replace q1 := cell_regrown q1
            replace q2 := cell_regrown q2
            replace q3 := cell_regrown q3
            replace q4 := cell_regrown q4
            replace q5 := cell_regrown q5
            refine wp_region_quiet_below (by kernel_rfl) (by kernel_rfl) ?_
            repeat go_big_quiet_step ((with_reducible exact Calls.in_regrown (hcall.out _ _ _ (x1.trans (Ext.regrown _ _ _)))))
            refine wpQuiet_nil ?_
            intro _ hw'
            obtain ⟨⟨dq, osq⟩, hw''⟩ := hw'
            subst hw''
            go_wp2
            go_ret
            exact ⟨ret_bool (by rw [← hrel.out, hst.out]), (hx.trans x1).trans (Ext.regrown _ _ _)⟩
        have g2 : (x.lc != 0) = true := by simpa using e2
        cases h2 : hasI (l.take j) (x.lc, x.lk) with
        | false =>
          obtain ⟨_, g5⟩ := fndV_no h2
          replace hkx := Lib.hid (show kx = false by rw [hkx]; simp [e2, h2])
          replace hst := Lib.hid (show kj = false by rw [hst.out, hkx.out]; simp)
          clear hkx e0 e2
          go_wp2_with fail
          have q0 : (wr.alloc (.cells #[.int .u32 x.c, .int .u32 x.k, .int .u32 x.lc, .int .u32 x.lk, .int .u32 x.rc, .int .u32 x.rk, .int .i32 x.ch] 43)).cell? ⟨wr.heap.size, 0, none⟩ = some (Vu x.c) := by simp [go_sem]
          have q1 : (wr.alloc (.cells #[.int .u32 x.c, .int .u32 x.k, .int .u32 x.lc, .int .u32 x.lk, .int .u32 x.rc, .int .u32 x.rk, .int .i32 x.ch] 43)).cell? ⟨wr.heap.size, 1, none⟩ = some (Vu x.k) := by simp [go_sem]
          have q2 : (wr.alloc (.cells #[.int .u32 x.c, .int .u32 x.k, .int .u32 x.lc, .int .u32 x.lk, .int .u32 x.rc, .int .u32 x.rk, .int .i32 x.ch] 43)).cell? ⟨wr.heap.size, 2, none⟩ = some (Vu x.lc) := by simp [go_sem]
          have q3 : (wr.alloc (.cells #[.int .u32 x.c, .int .u32 x.k, .int .u32 x.lc, .int .u32 x.lk, .int .u32 x.rc, .int .u32 x.rk, .int .i32 x.ch] 43)).cell? ⟨wr.heap.size, 3, none⟩ = some (Vu x.lk) := by simp [go_sem]
          have q4 : (wr.alloc (.cells #[.int .u32 x.c, .int .u32 x.k, .int .u32 x.lc, .int .u32 x.lk, .int .u32 x.rc, .int .u32 x.rk, .int .i32 x.ch] 43)).cell? ⟨wr.heap.size, 4, none⟩ = some (Vu x.rc) := by simp [go_sem]
          have q5 : (wr.alloc (.cells #[.int .u32 x.c, .int .u32 x.k, .int .u32 x.lc, .int .u32 x.lk, .int .u32 x.rc, .int .u32 x.rk, .int .i32 x.ch] 43)).cell? ⟨wr.heap.size, 5, none⟩ = some (Vu x.rk) := by simp [go_sem]
          have x1 : Ext wr (wr.alloc (.cells #[.int .u32 x.c, .int .u32 x.k, .int .u32 x.lc, .int .u32 x.lk, .int .u32 x.rc, .int .u32 x.rk, .int .i32 x.ch] 43)) := (Ext.refl _).alloc _
          generalize wr.alloc (.cells #[.int .u32 x.c, .int .u32 x.k, .int .u32 x.lc, .int .u32 x.lk, .int .u32 x.rc, .int .u32 x.rk, .int .i32 x.ch] 43) = W at *
          generalize wr.heap.size = py at *
          replace q0 := cell_regrown q0
          replace q1 := cell_regrown q1
          replace q2 := cell_regrown q2
          replace q3 := cell_regrown q3
          replace q4 := cell_regrown q4
          replace q5 := cell_regrown q5
          refine wp_region_quiet_below (by kernel_rfl) (by kernel_rfl) ?_
          repeat go_big_quiet_step ((with_reducible exact Calls.in_regrown (hcall.out _ _ _ (x1.trans (Ext.regrown _ _ _)))))
          refine wpQuiet_nil ?_
          intro _ hw'
          obtain ⟨⟨dq, osq⟩, hw''⟩ := hw'
          subst hw''
          go_wp2
          go_ret
          exact ⟨ret_bool (by rw [← hrel.out, hst.out]), (hx.trans x1).trans (Ext.regrown _ _ _)⟩
        | true =>
          obtain ⟨_, g5⟩ := fndV_yes h2
          by_cases e3 : x.rc = 0
          · have g3 : (x.rc != 0) = false := by simpa using e3
            replace hkx := Lib.hid (show kx = true by rw [hkx]; simp [e0, h1, h2, e3])
            replace hst := Lib.hid (show kj = knownG (l.take (j + 1)) (l.drop (j + 1)) by rw [hst.out, hkx.out]; simp)
            clear hkx e0 e2 e3
            go_wp2_with fail
            have q0 : (wr.alloc (.cells #[.int .u32 x.c, .int .u32 x.k, .int .u32 x.lc, .int .u32 x.lk, .int .u32 x.rc, .int .u32 x.rk, .int .i32 x.ch] 43)).cell? ⟨wr.heap.size, 0, none⟩ = some (Vu x.c) := by simp [go_sem]
            have q1 : (wr.alloc (.cells #[.int .u32 x.c, .int .u32 x.k, .int .u32 x.lc, .int .u32 x.lk, .int .u32 x.rc, .int .u32 x.rk, .int .i32 x.ch] 43)).cell? ⟨wr.heap.size, 1, none⟩ = some (Vu x.k) := by simp [go_sem]
            have q2 : (wr.alloc (.cells #[.int .u32 x.c, .int .u32 x.k, .int .u32 x.lc, .int .u32 x.lk, .int .u32 x.rc, .int .u32 x.rk, .int .i32 x.ch] 43)).cell? ⟨wr.heap.size, 2, none⟩ = some (Vu x.lc) := by simp [go_sem]
            have q3 : (wr.alloc (.cells #[.int .u32 x.c, .int .u32 x.k, .int .u32 x.lc, .int .u32 x.lk, .int .u32 x.rc, .int .u32 x.rk, .int .i32 x.ch] 43)).cell? ⟨wr.heap.size, 3, none⟩ = some (Vu x.lk) := by simp [go_sem]
            have q4 : (wr.alloc (.cells #[.int .u32 x.c, .int .u32 x.k, .int .u32 x.lc, .int .u32 x.lk, .int .u32 x.rc, .int .u32 x.rk, .int .i32 x.ch] 43)).cell? ⟨wr.heap.size, 4, none⟩ = some (Vu x.rc) := by simp [go_sem]
            have q5 : (wr.alloc (.cells #[.int .u32 x.c, .int .u32 x.k, .int .u32 x.lc, .int .u32 x.lk, .int .u32 x.rc, .int .u32 x.rk, .int .i32 x.ch] 43)).cell? ⟨wr.heap.size, 5, none⟩ = some (Vu x.rk) := by simp [go_sem]
            have x1 : Ext wr (wr.alloc (.cells #[.int .u32 x.c, .int .u32 x.k, .int .u32 x.lc, .int .u32 x.lk, .int .u32 x.rc, .int .u32 x.rk, .int .i32 x.ch] 43)) := (Ext.refl _).alloc _
            generalize wr.alloc (.cells #[.int .u32 x.c, .int .u32 x.k, .int .u32 x.lc, .int .u32 x.lk, .int .u32 x.rc, .int .u32 x.rk, .int .i32 x.ch] 43) = W at *
            generalize wr.heap.size = py at *
            replace q0 := cell_regrown q0
            replace q1 := cell_regrown q1
            replace q2 := cell_regrown q2
            replace q3 := cell_regrown q3
            replace q4 := cell_regrown q4
            replace q5 := cell_regrown q5
            refine wp_region_quiet_below (by kernel_rfl) (by kernel_rfl) ?_
            repeat go_big_quiet_step ((with_reducible exact Calls.in_regrown (hcall.out _ _ _ (x1.trans (Ext.regrown _ _ _)))))
            refine wpQuiet_nil ?_
            intro _ hw'
            obtain ⟨⟨dq, osq⟩, hw''⟩ := hw'
            subst hw''
            go_wp2
            go_roundw
            case rel => exact ⟨j + 1, by omega, by go_num, Lib.hid (by rw [← hst.out, hrel.out]), (hx.trans x1).trans (Ext.regrown _ _ _)⟩
            case measure => simp [intOf]; omega
          have g3 : (x.rc != 0) = true := by simpa using e3
          cases h3 : hasI (l.take j) (x.rc, x.rk) with
          | true =>
            obtain ⟨_, g4⟩ := fndV_yes h3
            replace hkx := Lib.hid (show kx = true by rw [hkx]; simp [e0, h1, h2, h3])
            replace hst := Lib.hid (show kj = knownG (l.take (j + 1)) (l.drop (j + 1)) by rw [hst.out, hkx.out]; simp)
            clear hkx e0 e2 e3
            go_wp2_with fail
            have q0 : (wr.alloc (.cells #[.int .u32 x.c, .int .u32 x.k, .int .u32 x.lc, .int .u32 x.lk, .int .u32 x.rc, .int .u32 x.rk, .int .i32 x.ch] 43)).cell? ⟨wr.heap.size, 0, none⟩ = some (Vu x.c) := by simp [go_sem]
            have q1 : (wr.alloc (.cells #[.int .u32 x.c, .int .u32 x.k, .int .u32 x.lc, .int .u32 x.lk, .int .u32 x.rc, .int .u32 x.rk, .int .i32 x.ch] 43)).cell? ⟨wr.heap.size, 1, none⟩ = some (Vu x.k) := by simp [go_sem]
            have q2 : (wr.alloc (.cells #[.int .u32 x.c, .int .u32 x.k, .int .u32 x.lc, .int .u32 x.lk, .int .u32 x.rc, .int .u32 x.rk, .int .i32 x.ch] 43)).cell? ⟨wr.heap.size, 2, none⟩ = some (Vu x.lc) := by simp [go_sem]
            have q3 : (wr.alloc (.cells #[.int .u32 x.c, .int .u32 x.k, .int .u32 x.lc, .int .u32 x.lk, .int .u32 x.rc, .int .u32 x.rk, .int .i32 x.ch] 43)).cell? ⟨wr.heap.size, 3, none⟩ = some (Vu x.lk) := by simp [go_sem]
            have q4 : (wr.alloc (.cells #[.int .u32 x.c, .int .u32 x.k, .int .u32 x.lc, .int .u32 x.lk, .int .u32 x.rc, .int .u32 x.rk, .int .i32 x.ch] 43)).cell? ⟨wr.heap.size, 4, none⟩ = some (Vu x.rc) := by simp [go_sem]
            have q5 : (wr.alloc (.cells #[.int .u32 x.c, .int .u32 x.k, .int .u32 x.lc, .int .u32 x.lk, .int .u32 x.rc, .int .u32 x.rk, .int .i32 x.ch] 43)).cell? ⟨wr.heap.size, 5, none⟩ = some (Vu x.rk) := by simp [go_sem]
            have x1 : Ext wr (wr.alloc (.cells #[.int .u32 x.c, .int .u32 x.k, .int .u32 x.lc, .int .u32 x.lk, .int .u32 x.rc, .int .u32 x.rk, .int .i32 x.ch] 43)) := (Ext.refl _).alloc _
            generalize wr.alloc (.cells #[.int .u32 x.c, .int .u32 x.k, .int .u32 x.lc, .int .u32 x.lk, .int .u32 x.rc, .int .u32 x.rk, .int .i32 x.ch] 43) = W at *
            generalize wr.heap.size = py at *
            replace q0 := cell_regrown q0
            replace q1 := cell_regrown q1
            replace q2 := cell_regrown q2
            replace q3 := cell_regrown q3
            replace q4 := cell_regrown q4
            replace q5 := cell_regrown q5
            refine wp_region_quiet_below (by kernel_rfl) (by kernel_rfl) ?_
            repeat go_big_quiet_step ((with_reducible exact Calls.in_regrown (hcall.out _ _ _ (x1.trans (Ext.regrown _ _ _)))))
            refine wpQuiet_nil ?_
            intro _ hw'
            obtain ⟨⟨dq, osq⟩, hw''⟩ := hw'
            subst hw''
            go_wp2
            go_roundw
            case rel => exact ⟨j + 1, by omega, by go_num, Lib.hid (by rw [← hst.out, hrel.out]), (hx.trans x1).trans (Ext.regrown _ _ _)⟩
            case measure => simp [intOf]; omega
          | false =>
            obtain ⟨_, g4⟩ := fndV_no h3
            replace hkx := Lib.hid (show kx = false by rw [hkx]; simp [e0, h1, h2, e3, h3])
            replace hst := Lib.hid (show kj = false by rw [hst.out, hkx.out]; simp)
            clear hkx e0 e2 e3
            go_wp2_with fail
            have q0 : (wr.alloc (.cells #[.int .u32 x.c, .int .u32 x.k, .int .u32 x.lc, .int .u32 x.lk, .int .u32 x.rc, .int .u32 x.rk, .int .i32 x.ch] 43)).cell? ⟨wr.heap.size, 0, none⟩ = some (Vu x.c) := by simp [go_sem]
            have q1 : (wr.alloc (.cells #[.int .u32 x.c, .int .u32 x.k, .int .u32 x.lc, .int .u32 x.lk, .int .u32 x.rc, .int .u32 x.rk, .int .i32 x.ch] 43)).cell? ⟨wr.heap.size, 1, none⟩ = some (Vu x.k) := by simp [go_sem]
            have q2 : (wr.alloc (.cells #[.int .u32 x.c, .int .u32 x.k, .int .u32 x.lc, .int .u32 x.lk, .int .u32 x.rc, .int .u32 x.rk, .int .i32 x.ch] 43)).cell? ⟨wr.heap.size, 2, none⟩ = some (Vu x.lc) := by simp [go_sem]
            have q3 : (wr.alloc (.cells #[.int .u32 x.c, .int .u32 x.k, .int .u32 x.lc, .int .u32 x.lk, .int .u32 x.rc, .int .u32 x.rk, .int .i32 x.ch] 43)).cell? ⟨wr.heap.size, 3, none⟩ = some (Vu x.lk) := by simp [go_sem]
            have q4 : (wr.alloc (.cells #[.int .u32 x.c, .int .u32 x.k, .int .u32 x.lc, .int .u32 x.lk, .int .u32 x.rc, .int .u32 x.rk, .int .i32 x.ch] 43)).cell? ⟨wr.heap.size, 4, none⟩ = some (Vu x.rc) := by simp [go_sem]
            have q5 : (wr.alloc (.cells #[.int .u32 x.c, .int .u32 x.k, .int .u32 x.lc, .int .u32 x.lk, .int .u32 x.rc, .int .u32 x.rk, .int .i32 x.ch] 43)).cell? ⟨wr.heap.size, 5, none⟩ = some (Vu x.rk) := by simp [go_sem]
            have x1 : Ext wr (wr.alloc (.cells #[.int .u32 x.c, .int .u32 x.k, .int .u32 x.lc, .int .u32 x.lk, .int .u32 x.rc, .int .u32 x.rk, .int .i32 x.ch] 43)) := (Ext.refl _).alloc _
            generalize wr.alloc (.cells #[.int .u32 x.c, .int .u32 x.k, .int .u32 x.lc, .int .u32 x.lk, .int .u32 x.rc, .int .u32 x.rk, .int .i32 x.ch] 43) = W at *
            generalize wr.heap.size = py at *
            replace q0 := cell_regrown q0
            replace q1 := cell_regrown q1
            replace q2 := cell_regrown q2
            replace q3 := cell_regrown q3
            replace q4 := cell_regrown q4
            replace q5 := cell_regrown q5
            refine wp_region_quiet_below (by kernel_rfl) (by kernel_rfl) ?_
            repeat go_big_quiet_step ((with_reducible exact Calls.in_regrown (hcall.out _ _ _ (x1.trans (Ext.regrown _ _ _)))))
            refine wpQuiet_nil ?_
            intro _ hw'
            obtain ⟨⟨dq, osq⟩, hw''⟩ := hw'
            subst hw''
            go_wp2
            go_ret
            exact ⟨ret_bool (by rw [← hrel.out, hst.out]), (hx.trans x1).trans (Ext.regrown _ _ _)⟩
    · have hz := Lib.hid (show true = R by rw [← hrel.out, List.drop_eq_nil_of_le (by rw [hn.out]; omega)]; rfl)
      go_wp2
      go_ret
      exact ⟨ret_bool hz.out, hx⟩

end Go.Proofs.Ytmpomammieenjaa

namespace Go.Proofs.Ytmpomammieenjaa
open Go.ChangeShapes Go.WideShapes Go.ChangeAt Go.RowKit Go.Sort
set_option linter.unusedVariables false
set_option linter.unusedSimpArgs false
attribute [local go_sem] World.cell?_alloc_some

end Go.Proofs.Ytmpomammieenjaa

namespace Go.Proofs.Ytmpomammieenjaa
open Go.ChangeShapes Go.WideShapes Go.ChangeAt Go.RowKit Go.Sort
set_option linter.unusedVariables false
set_option linter.unusedSimpArgs false
attribute [local go_sem] World.cell?_alloc_some
attribute [local go_sem ↓] id_eql

def okB (c : Int) : Bool := decide (0 ≤ c ∧ c ≤ 1114111 ∧ (c < 55296 ∨ 57343 < c))
theorem validRef_any (c : Int) (w : World) : Calls Try.prog 38 #[.int .i32 c] w fun e w' => e = .returned (.bool (okB c)) ∧ w = w' := by
  go_enter Try.func38, Try.ntmps38
  go_wp2
  all_goals go_ret
  all_goals refine ⟨ret_bool ?_, rfl⟩
  all_goals (rw [Bool.eq_iff_iff]; simp [okB]; try omega)

end Go.Proofs.Ytmpomammieenjaa

namespace Go.Proofs.Ytmpomammieenjaa
open Go.ChangeShapes Go.WideShapes Go.ChangeAt Go.RowKit Go.Sort
set_option linter.unusedVariables false
set_option linter.unusedSimpArgs false
attribute [local go_sem] World.cell?_alloc_some

structure LmS (W : World) (q : Nat) (L : List It) (G : List I2) : Prop where
  cells : ∃ A cA B cB, W.cell? ⟨q, 0, none⟩ = some (.slice A L.length cA) ∧ W.cell? ⟨q, 1, none⟩ = some (.slice B G.length cB) ∧ L.length ≤ cA ∧ G.length ≤ cB ∧ ItS W A L ∧ OdS W B G
theorem LmS.ext {W W' : World} {q : Nat} {L : List It} {G : List I2} (h : LmS W q L G) (hx : Ext W W') : LmS W' q L G := by
  obtain ⟨A, cA, B, cB, h1, h2, h3, h4, h5, h6⟩ := h.cells
  exact ⟨A, cA, B, cB, hx.keep h1, hx.keep h2, h3, h4, h5.ext hx, h6.ext hx⟩
theorem BoxI.newL (W : World) (x : It) : BoxI (W.alloc (.cells #[.int .u32 x.c, .int .u32 x.k, .int .u32 x.lc, .int .u32 x.lk, .int .u32 x.rc, .int .u32 x.rk, .int .i32 x.ch] 43)) W.heap.size x := heap_alloc_new W _
theorem BoxI.thawL {W : World} {q : Nat} {x : It} (h : BoxI W q x) (j : Nat) : W.frozen? ⟨q, j, none⟩ = false := frozen_of_row W q j _ _ h
theorem BoxI.all {W : World} {q : Nat} {x : It} (h : BoxI W q x) (a b c d e f g : Int) : BoxI (((((((W.setCell ⟨q, 0, none⟩ (Vu a)).setCell ⟨q, 1, none⟩ (Vu b)).setCell ⟨q, 2, none⟩ (Vu c)).setCell ⟨q, 3, none⟩ (Vu d)).setCell ⟨q, 4, none⟩ (Vu e)).setCell ⟨q, 5, none⟩ (Vu f)).setCell ⟨q, 6, none⟩ (.int .i32 g)) q ⟨a, b, c, d, e, f, g⟩ := by
  have h0 : BoxI (W.setCell ⟨q, 0, none⟩ (Vu a)) q ⟨a, x.k, x.lc, x.lk, x.rc, x.rk, x.ch⟩ := heap_setCell_same W q 0 _ _ _ h
  generalize W.setCell ⟨q, 0, none⟩ (Vu a) = W0 at *
  have h1 : BoxI (W0.setCell ⟨q, 1, none⟩ (Vu b)) q ⟨a, b, x.lc, x.lk, x.rc, x.rk, x.ch⟩ := heap_setCell_same W0 q 1 _ _ _ h0
  generalize W0.setCell ⟨q, 1, none⟩ (Vu b) = W1 at *
  have h2 : BoxI (W1.setCell ⟨q, 2, none⟩ (Vu c)) q ⟨a, b, c, x.lk, x.rc, x.rk, x.ch⟩ := heap_setCell_same W1 q 2 _ _ _ h1
  generalize W1.setCell ⟨q, 2, none⟩ (Vu c) = W2 at *
  have h3 : BoxI (W2.setCell ⟨q, 3, none⟩ (Vu d)) q ⟨a, b, c, d, x.rc, x.rk, x.ch⟩ := heap_setCell_same W2 q 3 _ _ _ h2
  generalize W2.setCell ⟨q, 3, none⟩ (Vu d) = W3 at *
  have h4 : BoxI (W3.setCell ⟨q, 4, none⟩ (Vu e)) q ⟨a, b, c, d, e, x.rk, x.ch⟩ := heap_setCell_same W3 q 4 _ _ _ h3
  generalize W3.setCell ⟨q, 4, none⟩ (Vu e) = W4 at *
  have h5 : BoxI (W4.setCell ⟨q, 5, none⟩ (Vu f)) q ⟨a, b, c, d, e, f, x.ch⟩ := heap_setCell_same W4 q 5 _ _ _ h4
  generalize W4.setCell ⟨q, 5, none⟩ (Vu f) = W5 at *
  exact heap_setCell_same W5 q 6 _ _ _ h5

def itmV (L : List It) (a : I2) : It := match fnd L a with
  | some i => (L[i]?).getD ⟨0, 0, 0, 0, 0, 0, 0⟩
  | none => ⟨0, 0, 0, 0, 0, 0, 0⟩
theorem itmV_some {L : List It} {a : I2} {i : Nat} {x : It} (h : fnd L a = some i) (hx : L[i]? = some x) : itmV L a = x := by
  unfold itmV; rw [h]; simp only [hx]; rfl
theorem itmV_none {L : List It} {a : I2} (h : hasI L a = false) : itmV L a = ⟨0, 0, 0, 0, 0, 0, 0⟩ := by
  unfold itmV; rw [fnd_none.2 h]
end Go.Proofs.Ytmpomammieenjaa

namespace Go.Proofs.Ytmpomammieenjaa
open Go.ChangeShapes Go.WideShapes Go.ChangeAt Go.RowKit Go.Sort
set_option linter.unusedVariables false
set_option linter.unusedSimpArgs false
attribute [local go_sem] World.cell?_alloc_some

theorem wpList_append_IB {w0 w : World} {ops : Array Oper} {rest : List Oper} {o : Oper} {a : Act} {Q : Exit → Act → World → Prop} (hgd : o.guard = none) (s x : Operand)
    (ho : o.op = .call { callee := .builtin .append, args := #[s, x], argTypes := #[35, 35] })
    (v : Value) (l : List It) (hs : a.eval s = v) (hown : OwnI w0 w v l) (hx : Ext w0 w)
    (A : Option Addr) (m c : Nat) (r : List It) (he : a.eval x = .slice A m c) (hm : r.length = m) (hr : ItS w A r) (hb : l.length + r.length ≤ 5026338869833)
    (h : ∀ v' w', OwnI w0 w' v' (l ++ r) → Ext w0 w' → w.grownBy w' v.ownBlock → (v'.ownBlock = v.ownBlock ∨ v'.ownBlock = some w.heap.size) → wpList Try.prog ops Q rest (a.put o.dst v') w') : wpList Try.prog ops Q (o :: rest) a w := by
  refine wpList_plain hgd fun K hK => ?_
  obtain ⟨i, hi, hz0, hz1, hz2⟩ := info_parts infoI
  subst hm
  obtain ⟨v', w', hrun, h2, h3, h4⟩ := run_append_rowB (P := Try.prog) w w0.heap.size 35 o.type 43 i _ 7 28 Try.underlying35 hi hz0 hz1 hz2 rfl (by omega) v l.length _ hown A r.length c _ (flat_len encI_len r) hr (flat_one_cell encI_one r)
    (by unfold maxLen; omega) (by omega) hx.size
  unfold Oper.wp execOp
  simp only [ho, resolve, invoke, builtin, Sem.run_bind, Sem.run_pure, Result.andThen_ok, List.map_toArray, List.map_cons, List.map_nil, hs, he, hrun]
  refine hK _ _ (h v' w' ?_ (hx.grown h3 (OwnG.lt hown)) h3 h4)
  unfold OwnI OwnG
  rw [flat_append, List.length_append]
  exact h2
theorem appendI_base {P : Program} (w : World) (t ty e : TypeId) (i : TypeInfo) (ht : P.underlying t = some (.slice e)) (hi : P.info? e = some i) (base : Option Addr) (A : Option Addr) (m c : Nat) (hm : 0 < m)
    (hfit : Builtin.nextslicecap m 0 * i.bytes ≤ 281474976710656) (h63 : (m : Int) ≤ 9223372036854775807) :
    (Builtin.append_ #[t, t] ty #[.slice base 0 0, .slice A m c]).run P w = (Builtin.append_ #[t, t] ty #[.slice none 0 0, .slice A m c]).run P w := by
  have h48' : ¬ (281474976710656 < Builtin.nextslicecap m 0 * i.bytes) := by omega
  have h63' : ¬ (9223372036854775807 < (m : Int)) := by omega
  have hm0 : ¬ (m ≤ 0) := by omega
  have hm1 : ¬ (m = 0) := by omega
  cases base with
  | none => rfl
  | some a =>
    simp [Builtin.append_, run_underlying ht, sizeOf, typeInfo, hi, Builtin.lenOf, hm1, h48', h63', Builtin.firstCells, loadCells, loadCellsFrom]
theorem run_append_I0 (w0 w : World) (ty : TypeId) (q : Nat) (l : List It) (A : Option Addr) (m c : Nat) (hm : l.length = m) (hr : ItS w A l) (hx : Ext w0 w) (hb : m ≤ 5026338869833) (hq : w0.heap.size ≤ q) (hqc : w.heap[q]? = some (.cells #[] 43 (0, 0))) :
    ∃ v' w', (Builtin.append_ #[35, 35] ty #[.slice (some ⟨q, 0, none⟩) 0 0, .slice A m c]).run Try.prog w = .ok v' w' ∧ OwnI w0 w' v' l ∧ Ext w w' := by
  obtain ⟨i, hi, hz0, hz1, hz2⟩ := info_parts infoI
  subst hm
  obtain ⟨v', w', hrun, h2, h3, h4⟩ := run_append_rowB (P := Try.prog) w w0.heap.size 35 ty 43 i _ 7 28 Try.underlying35 hi hz0 hz1 hz2 rfl (by omega) (.slice none 0 0) 0 [] (World.ownsRow_nil w _ _ _) A l.length c _ (flat_len encI_len l) hr (flat_one_cell encI_one l)
    (by unfold maxLen; omega) (by omega) hx.size
  rcases Nat.eq_zero_or_pos l.length with h0 | h0
  · obtain rfl : l = [] := List.eq_nil_of_length_eq_zero h0
    refine ⟨.slice (some ⟨q, 0, none⟩) 0 0, w, ?_, ⟨by simp [flat], .inr ⟨q, 0, #[], rfl, hq, hqc, Nat.le_refl _, by unfold maxLen; omega, by simp, by simp [flat]⟩⟩, Ext.refl _⟩
    cases A <;> simp [Builtin.append_, run_underlying Try.underlying35, sizeOf, typeInfo, hi, Builtin.lenOf, Builtin.firstCells, storeCells, loadCells, loadCellsFrom]
  · refine ⟨v', w', ?_, ?_, ?_⟩
    · rw [appendI_base w _ _ _ i Try.underlying35 hi _ A l.length c h0 ?_ (by omega)]
      · exact hrun
      · rw [hz2]
        have : Builtin.nextslicecap l.length 0 ≤ l.length := by
          unfold Builtin.nextslicecap
          rw [if_pos (by omega)]
          omega
        omega
    · unfold OwnI OwnG
      have := h2
      rw [Nat.zero_add, List.nil_append] at this
      exact this
    · exact Ext.grown (Ext.refl w) (v := .slice none 0 0) h3 (fun k hk => by cases hk)
theorem ItS.box {W : World} {q : Nat} {x : It} (h : BoxI W q x) : ItS W (some ⟨q, 0, none⟩) [x] := fun _ => ⟨_, _, rfl, fun j u hu => by rw [← add_at]; exact World.news_of_block h j u hu⟩

def stepK (out : List It) (x : It) : List It := if knownI (out ++ [x]) && okB x.ch then out ++ [x] else out
def knL (l : List It) : List It := l.foldl stepK []
theorem knL_take {l : List It} {j : Nat} {x : It} (h : l[j]? = some x) : knL (l.take (j + 1)) = if knownI (knL (l.take j) ++ [x]) && okB x.ch then knL (l.take j) ++ [x] else knL (l.take j) := by
  rw [take_get h]
  unfold knL
  rw [List.foldl_append]
  rfl
theorem knL_len (l : List It) : (knL l).length ≤ l.length := by
  refine snoc_ind (P := fun l => (knL l).length ≤ l.length) (Nat.le_refl _) (fun l x ih => ?_) l
  have : knL (l ++ [x]) = stepK (knL l) x := by unfold knL; rw [List.foldl_append]; rfl
  rw [this]
  unfold stepK
  rw [List.length_append]
  split
  · rw [List.length_append]; simp; omega
  · simp; omega
theorem knL_known (l : List It) : knownI (knL l) = true := by
  refine snoc_ind (P := fun l => knownI (knL l) = true) rfl (fun l x ih => ?_) l
  have : knL (l ++ [x]) = stepK (knL l) x := by unfold knL; rw [List.foldl_append]; rfl
  rw [this]
  unfold stepK
  split
  · rename_i h
    rw [Bool.and_eq_true] at h
    exact h.1
  · exact ih

def tlkTab (b o n cap j : Nat) (Ao : Option Addr) (m co : Nat) (out : List It) (x : It) (s0 : World) : SoftTab := [(14, fun z9 W => ∃ q, z9 = .slice (some ⟨q, 0, none⟩) 0 0 ∧ s0.heap.size ≤ q ∧ W.heap[q]? = some (.cells #[] 43 (0, 0))),
  (15, fun z9 W => z9 = .slice Ao m co),
  (16, fun z9 W => ∃ q : Value, z9 = q ∧ OwnI s0 W q out),
  (17, fun z9 W => z9 = .slice (some ⟨b, o, none⟩) n cap),
  (18, fun z9 W => z9 = Vi (j : Int)),
  (19, fun z9 W => z9 = .pointer (some ⟨b, o + j * 7, none⟩)),
  (20, fun z9 W => z9 = itv x),
  (21, fun z9 W => ∃ q, z9 = .slice (some ⟨q, 0, none⟩) 1 1 ∧ BoxI W q x)]
theorem tlkTab_mono (b o n cap j : Nat) (Ao : Option Addr) (m co : Nat) (out : List It) (x : It) (s0 : World) (Rel : World → World → Prop) (hR : ∀ W W', Rel W W' → Ext W W') : SoftMonoR Rel (tlkTab b o n cap j Ao m co out x s0) := by
  intro p hp v W W' h hx
  simp only [tlkTab, List.mem_cons, List.not_mem_nil, or_false] at hp
  rcases hp with rfl | rfl | rfl | rfl | rfl | rfl | rfl | rfl
  all_goals first
    | exact h
    | (obtain ⟨q, h1, h2, h3⟩ := h
       exact ⟨q, h1, h2, by rw [RowKit.Below.block (hR _ _ hx) q (Array.getElem?_eq_some_iff.1 h3).1]; exact h3⟩)
    | (obtain ⟨q, h1, h2⟩ := h
       exact ⟨q, h1, h2.ext (hR _ _ hx)⟩)

set_option maxRecDepth 100000 in
set_option maxHeartbeats 8000000 in
theorem knownL_any (A : Option Addr) (n cap : Nat) (l : List It) (w : World) (hv : ItS w A l) (hn : l.length = n) (hb : n ≤ 5026338869800) :
    Calls Try.prog 15 #[.slice A n cap] w (RetI w (knL l)) := by
  replace hn := Lib.hid hn
  replace hv := Lib.hid hv
  go_enter Try.func15, Try.ntmps15
  go_wp2
  go_loopw [3, 4] (fun v i W => ∃ (j : Nat), j ≤ n ∧ i = Vi j ∧ Hid (OwnI w W v (knL (l.take j))) ∧ Ext w W) (fun _ i _ => n - (intOf i).toNat)
  case atStart => exact ⟨0, Nat.zero_le _, rfl, Lib.hid (OwnI.nil _ _), Ext.refl _⟩
  case round =>
    obtain ⟨j, hj, rfl, ho, hx⟩ := hrel
    by_cases hlt : j < n
    · obtain ⟨b, o, x, hA, hp, d⟩ := (hv.out.ext hx).at (k := j) (by rw [hn.out]; exact hlt)
      obtain ⟨c0, c1, c2, c3, c4, c5, c6⟩ := d
      have hi1 : (0 : Int) ≤ (j : Int) := by omega
      have hi2 : (j : Int) < (n : Int) := by omega
      have hst := knL_take hp
      have hol : (knL (l.take j)).length ≤ j := by have := knL_len (l.take j); rw [List.length_take] at this; omega
      have hval := Lib.hid (fun W => validRef_any x.ch W)
      subst hA
      clear hp
      obtain ⟨Ao, co, rfl, _, hI⟩ := ho.out.open
      generalize knL (l.take j) = out at *
      obtain ⟨m, hm⟩ : ∃ m, out.length = m := ⟨_, rfl⟩
      rw [hm] at hol ho ⊢
      replace hm := Lib.hid hm
      replace hI := Lib.hid hI
      go_wp2_with fail
      refine wp_soft_frame Ext 8 (tlkTab b o n cap j Ao m co out x wr) (by kernel_rfl) (by kernel_rfl) (fun _ _ _ => Ext.trans) ((Ext.refl _).drew) rfl (by show List.Nodup [14, 15, 16, 17, 18, 19, 20, 21]; decide) (by show ∀ d ∈ [14, 15, 16, 17, 18, 19, 20, 21], d < 37; decide) (tlkTab_mono b o n cap j Ao m co out x wr Ext (fun _ _ h => h)) ?_ ⟨?_, ?_, ?_, ?_, ?_, ?_, ?_, ?_, trivial⟩
      · intro W vs hT hR
        match vs, hT with
        | [v0, v1, v2, v3, v4, v5, v6, v7], ⟨e0, e1, e2, e3, e4, e5, e6, e7, _⟩ =>
          simp only [tlkTab, List.map_cons, List.map_nil, List.zip_cons_cons, List.zip_nil_left, putAll, List.setIfInBounds_toArray, List.set_cons_zero, List.set_cons_succ, List.drop_succ_cons, List.drop_zero]
          simp only at e1 e3 e4 e5 e6
          obtain ⟨q0, e0, h0⟩ := e0
          obtain ⟨q2, e2, h2⟩ := e2
          obtain ⟨q7, e7, h7⟩ := e7
          rw [e0, e1, e2, e3, e4, e5, e6, e7]
          clear e0 e1 e2 e3 e4 e5 e6 e7 v0 v1 v2 v3 v4 v5 v6 v7
          have hb7 := h7.cells
          have hr7 : ItS W (some ⟨q7, 0, none⟩) [x] := ItS.box h7
          clear hT c0 c1 c2 c3 c4 c5 h0
          go_wp2_with (first
              | (at_builtin
                 refine wpList_append_IB (w0 := wr) rfl (.tmp 16) (.tmp 21) rfl _ out rfl h2 hR _ 1 1 [x] rfl rfl hr7 (by rw [hm.out, List.length_cons, List.length_nil]; omega) ?_
                 intro v5 w5 o5 x5 g5 e5
                 have y6 := x5.keep c6)
              | fail)
          refine (hval.out _).mono ?_
          rintro e w5b ⟨rfl, rfl⟩
          obtain ⟨A5, c5, rfl, hc5, hI5⟩ := o5.open
          obtain ⟨m5, hm5⟩ : ∃ k, (out ++ [x]).length = k := ⟨_, rfl⟩
          rw [hm5] at hc5 o5 ⊢
          have ho5 := Lib.hid o5
          have hkn := Lib.hid (known_ref A5 m5 c5 (out ++ [x]) w5 hI5 hm5 hc5 (by rw [← hm5, List.length_append, hm.out, List.length_cons, List.length_nil]; omega))
          clear hm5
          clear o5 hI5 g5 e5 hb7 hr7 h7 h2 y6 c6
          go_wp2_with fail
          refine hkn.out.mono ?_
          rintro e w6 ⟨rfl, x6⟩
          clear hkn
          cases hkb : knownI (out ++ [x]) with
          | false =>
            rw [hkb, Bool.false_and, if_neg (by simp)] at hst
            replace hst := Lib.hid hst
            clear hkb
            go_wp2
            go_roundw
            case rel => exact ⟨j + 1, by omega, by go_num, Lib.hid (by rw [hst.out]; exact ((ho.out.ext x5).ext x6)), (hx.trans x5).trans x6⟩
            case measure => simp [intOf]; omega
          | true =>
            rw [hkb, Bool.true_and] at hst
            cases hch : okB x.ch with
            | false =>
              rw [hch, if_neg (by simp)] at hst
              replace hst := Lib.hid hst
              clear hkb hch
              go_wp2
              go_roundw
              case rel => exact ⟨j + 1, by omega, by go_num, Lib.hid (by rw [hst.out]; exact ((ho.out.ext x5).ext x6)), (hx.trans x5).trans x6⟩
              case measure => simp [intOf]; omega
            | true =>
              rw [hch, if_pos rfl] at hst
              replace hst := Lib.hid hst
              clear hkb hch
              go_wp2
              go_roundw
              case rel => exact ⟨j + 1, by omega, by go_num, Lib.hid (by rw [hst.out]; exact (ho5.out.ext x6).down hx), (hx.trans x5).trans x6⟩
              case measure => simp [intOf]; omega
      · refine softR_val 14 _ (by kernel_rfl) rfl rfl ?_
        intro a W hx hout hdep
        refine ⟨rfl, .slice (some ⟨W.heap.size, 0, none⟩) 0 0, _, ?_, ⟨_, rfl, hx.size, heap_alloc_new W _⟩, (Ext.refl W).alloc _⟩
        simp [execOp, go_sem]
      · refine softR_val 15 _ (by kernel_rfl) rfl rfl ?_
        intro a W hx hout hdep
        have ev3 : a.tmps[3]?.getD undef = .slice Ao m co := by rw [← Array.getD_eq_getD_getElem?]; exact hout 3 (by show 3 ∉ [14, 15, 16, 17, 18, 19, 20, 21]; decide)
        refine ⟨rfl, .slice Ao m co, W, ?_, rfl, Ext.refl _⟩
        simp [ev3, execOp, go_sem]
      · refine softR_val 16 _ (by kernel_rfl) rfl rfl ?_
        intro a W hx hout hdep
        have tl14 := (hdep ⟨0, .data⟩ (by simp) rfl 14 _ rfl).1
        have ev15 : a.tmps[15]?.getD undef = .slice Ao m co := by rw [← Array.getD_eq_getD_getElem?]; exact (hdep ⟨1, .data⟩ (by simp) rfl 15 _ rfl).1
        obtain ⟨q9, eq9, hq9, hc9⟩ := tl14
        have hs9 : a.eval (.tmp 14) = .slice (some ⟨q9, 0, none⟩) 0 0 := eq9
        have ht9 : a.eval (.tmp 15) = .slice Ao m co := (hdep ⟨1, .data⟩ (by simp) rfl 15 _ rfl).1
        obtain ⟨v9, w9, hrun9, ho9, hx9⟩ := run_append_I0 wr W 35 q9 out Ao m co hm.out (hI.out.ext hx) hx (by omega) hq9 hc9
        refine ⟨rfl, v9, w9, ?_, ⟨_, rfl, ho9⟩, hx9⟩
        simp only [execOp, resolve, invoke, builtin, Sem.run_bind, Sem.run_pure, Result.andThen_ok, List.map_toArray, List.map_cons, List.map_nil, hs9, ht9, hrun9]
      · refine softR_val 17 _ (by kernel_rfl) rfl rfl ?_
        intro a W hx hout hdep
        have ev0 : a.tmps[0]?.getD undef = .slice (some ⟨b, o, none⟩) n cap := by rw [← Array.getD_eq_getD_getElem?]; exact hout 0 (by show 0 ∉ [14, 15, 16, 17, 18, 19, 20, 21]; decide)
        refine ⟨rfl, .slice (some ⟨b, o, none⟩) n cap, W, ?_, rfl, Ext.refl _⟩
        simp [ev0, execOp, go_sem]
      · refine softR_val 18 _ (by kernel_rfl) rfl rfl ?_
        intro a W hx hout hdep
        have ev4 : a.tmps[4]?.getD undef = Vi (j : Int) := by rw [← Array.getD_eq_getD_getElem?]; exact hout 4 (by show 4 ∉ [14, 15, 16, 17, 18, 19, 20, 21]; decide)
        refine ⟨rfl, Vi (j : Int), W, ?_, rfl, Ext.refl _⟩
        simp [ev4, execOp, go_sem]
      · refine softR_val 19 _ (by kernel_rfl) rfl rfl ?_
        intro a W hx hout hdep
        have ev17 : a.tmps[17]?.getD undef = .slice (some ⟨b, o, none⟩) n cap := by rw [← Array.getD_eq_getD_getElem?]; exact (hdep ⟨3, .data⟩ (by simp) rfl 17 _ rfl).1
        have ev18 : a.tmps[18]?.getD undef = Vi (j : Int) := by rw [← Array.getD_eq_getD_getElem?]; exact (hdep ⟨4, .data⟩ (by simp) rfl 18 _ rfl).1
        refine ⟨rfl, .pointer (some ⟨b, o + j * 7, none⟩), W, ?_, rfl, Ext.refl _⟩
        simp [ev17, ev18, hi1, hi2, execOp, go_sem]
      · refine softR_val 20 _ (by kernel_rfl) rfl rfl ?_
        intro a W hx hout hdep
        have ev19 : a.tmps[19]?.getD undef = .pointer (some ⟨b, o + j * 7, none⟩) := by rw [← Array.getD_eq_getD_getElem?]; exact (hdep ⟨5, .data⟩ (by simp) rfl 19 _ rfl).1
        have q0 := hx.keep c0
        have q1 := hx.keep c1
        have q2 := hx.keep c2
        have q3 := hx.keep c3
        have q4 := hx.keep c4
        have q5 := hx.keep c5
        have q6 := hx.keep c6
        refine ⟨rfl, itv x, W, ?_, rfl, Ext.refl _⟩
        simp [ev19, q0, q1, q2, q3, q4, q5, q6, execOp, go_sem]
      · refine softR_val 21 _ (by kernel_rfl) rfl rfl ?_
        intro a W hx hout hdep
        have ev20 : a.tmps[20]?.getD undef = itv x := by rw [← Array.getD_eq_getD_getElem?]; exact (hdep ⟨6, .data⟩ (by simp) rfl 20 _ rfl).1
        refine ⟨rfl, .slice (some ⟨W.heap.size, 0, none⟩) 1 1, _, ?_, ⟨_, rfl, heap_alloc_new W _⟩, (Ext.refl W).alloc _⟩
        simp [ev20, execOp, go_sem]
    · have hfull := Lib.hid (show l.take j = l from List.take_of_length_le (by rw [hn.out]; omega))
      rw [hfull.out] at ho
      go_wp2
      go_ret
      exact ⟨_, rfl, ho.out, hx⟩

end Go.Proofs.Ytmpomammieenjaa

namespace Go.Proofs.Ytmpomammieenjaa
open Go.ChangeShapes Go.WideShapes Go.ChangeAt Go.RowKit Go.Sort
set_option linter.unusedVariables false
set_option linter.unusedSimpArgs false

theorem OdS.take {w : World} {A : Option Addr} {l : List I2} (h : OdS w A l) (k : Nat) : OdS w A (l.take k) := by
  unfold OdS; rw [flat_take encO_len]; exact Row.take h _
theorem OdS.cut {w : World} {A : Option Addr} {l : List I2} (h : OdS w A l) {n cap k : Nat} (hn : l.length = n) (hc : n ≤ cap) (hk : k ≤ n) : OdS w (cutA A cap k 2) (l.drop k) := by
  unfold OdS; rw [flat_drop encO_len]; exact Row.cut h (n := n) (by rw [flat_len encO_len, hn]) hc hk
end Go.Proofs.Ytmpomammieenjaa

namespace Go.Proofs.Ytmpomammieenjaa
open Go.ChangeShapes Go.WideShapes Go.ChangeAt Go.RowKit Go.Sort
set_option linter.unusedVariables false
set_option linter.unusedSimpArgs false

def RX (p : Nat) (W W' : World) : Prop := W.grownBy W' (some p)
theorem RX.refl (p : Nat) (W : World) : RX p W W := ⟨rfl, rfl, rfl, Nat.le_refl _, fun _ _ _ => rfl⟩
theorem RX.trans {p : Nat} {a b c : World} (h : RX p a b) (k : RX p b c) : RX p a c :=
  ⟨k.os.trans h.os, k.tape.trans h.tape, k.output.trans h.output, Nat.le_trans h.size k.size, fun j hj hne => (k.block j (Nat.lt_of_lt_of_le hj h.size) hne).trans (h.block j hj hne)⟩
theorem RX.ext {p : Nat} {a b : World} (h : Ext a b) : RX p a b := ⟨RowKit.Below.os h, RowKit.Below.tape h, RowKit.Below.output h, h.size, fun k hk _ => RowKit.Below.block h k hk⟩
theorem RX.down {p : Nat} {w0 W W' : World} (hx : Ext w0 W) (hp : w0.heap.size ≤ p) (h : RX p W W') : Ext w0 W' := RowKit.Below.grown hx h hx.size (fun k hk => by injection hk with hk; omega)
theorem RX.cell {p q j : Nat} {W W' : World} {x : Value} (h : RX p W W') (hc : W.cell? ⟨q, j, none⟩ = some x) (hne : q ≠ p) : W'.cell? ⟨q, j, none⟩ = some x := by
  rw [World.cell?_of_block (w := W) (w' := W') (a := ⟨q, j, none⟩) (h.block q (World.block_lt_of_cell? _ _ hc) (fun e => hne (by injection e)))]; exact hc
theorem RX.blk {p q : Nat} {W W' : World} {o : Obj} (h : RX p W W') (hc : W.heap[q]? = some o) (hne : q ≠ p) : W'.heap[q]? = some o := by
  rw [h.block q (Array.getElem?_eq_some_iff.1 hc).1 (fun e => hne (by injection e))]; exact hc
theorem RX.set {p q : Nat} {W W' : World} (h : RX p W W') (j : Nat) (u : Value) (hq : W.heap.size ≤ q ∨ q = p) : RX p W (W'.setCell ⟨q, j, none⟩ u) := by
  refine ⟨by rw [← h.os]; rfl, by rw [← h.tape]; rfl, by rw [← h.output]; rfl, by have := h.size; simpa [World.setCell] using this, fun k hk hne => ?_⟩
  rw [heap_setCell_other _ _ _ _ ?_, h.block k hk hne]
  intro e
  simp only at e
  subst e
  rcases hq with g | g
  · omega
  · exact hne (by rw [g])
structure GX (B p q : Nat) (w W : World) : Prop where
  os : W.os = w.os
  tape : W.tape = w.tape
  output : W.output = w.output
  size : B ≤ W.heap.size
  block : ∀ k, k < B → k ≠ p → k ≠ q → W.heap[k]? = w.heap[k]?
theorem GX.refl (B p q : Nat) (w : World) (h : B ≤ w.heap.size) : GX B p q w w := ⟨rfl, rfl, rfl, h, fun _ _ _ _ => rfl⟩
theorem GX.on {B p q : Nat} {w W W' : World} {row : Option Nat} (h : GX B p q w W) (g : W.grownBy W' row) (hr : ∀ k, row = some k → B ≤ k ∨ k = p ∨ k = q) : GX B p q w W' := by
  refine ⟨g.os.trans h.os, g.tape.trans h.tape, g.output.trans h.output, Nat.le_trans h.size g.size, fun k hk h1 h2 => ?_⟩
  rw [g.block k (Nat.lt_of_lt_of_le hk h.size) ?_, h.block k hk h1 h2]
  intro e
  rcases hr k e.symm with h3 | h3 | h3
  · omega
  · exact h1 h3
  · exact h2 h3
theorem GX.rx {B p q : Nat} {w W W' : World} (h : GX B p q w W) (g : RX p W W') : GX B p q w W' := h.on g (fun k e => by injection e with e; exact .inr (.inl e.symm))
theorem GX.set {B p q j : Nat} {w W : World} (h : GX B p q w W) (u : Value) : GX B p q w (W.setCell ⟨q, j, none⟩ u) := h.on (RX.set (RX.refl q W) j u (.inr rfl)) (fun k e => by injection e with e; exact .inr (.inr e.symm))
theorem GX.down {B p q : Nat} {w0 w W : World} (h : GX B p q w W) (hx : Ext w0 w) (hB : w.heap.size ≤ B) (hp : w0.heap.size ≤ p) (hq : w0.heap.size ≤ q) : Ext w0 W := by
  refine ⟨h.os.trans (RowKit.Below.os hx), h.tape.trans (RowKit.Below.tape hx), h.output.trans (RowKit.Below.output hx), by have := hx.size; have := h.size; omega, fun k hk => ?_⟩
  rw [h.block k (by have := hx.size; omega) (by omega) (by omega)]
  exact RowKit.Below.block hx k hk
def far (B : Nat) (v : Value) : Prop := ∀ k, v.ownBlock = some k → B ≤ k
theorem far.nil (B : Nat) : far B (.slice none 0 0) := fun k hk => by cases hk
theorem far.mono {B C : Nat} {v : Value} (h : far B v) (hc : C ≤ B) : far C v := fun k hk => Nat.le_trans hc (h k hk)
theorem far.on {B n : Nat} {v v' : Value} (h : far B v) (b : v'.ownBlock = v.ownBlock ∨ v'.ownBlock = some n) (hn : B ≤ n) : far B v' := fun k hk => by
  rcases b with e | e
  · exact h k (by rw [← e]; exact hk)
  · rw [e] at hk; injection hk with hk; omega

theorem GX.ext {B p q : Nat} {w W W' : World} (h : GX B p q w W) (hx : Ext W W') : GX B p q w W' :=
  h.on (row := none) ⟨RowKit.Below.os hx, RowKit.Below.tape hx, RowKit.Below.output hx, hx.size, fun k hk _ => RowKit.Below.block hx k hk⟩ (fun k e => by cases e)

end Go.Proofs.Ytmpomammieenjaa

namespace Go.Proofs.Ytmpomammieenjaa
open Go.ChangeShapes Go.WideShapes Go.ChangeAt Go.RowKit Go.Sort
set_option linter.unusedVariables false
set_option linter.unusedSimpArgs false

structure SoftAtP (Rel : World → World → Prop) (k0 : Nat) (Pre Post : World → Prop) (tab : SoftTab) (a0 a : Act) (w W : World) (listed : Array Bool) : Prop where
  rel : Rel w W
  phase : (listed.getD k0 false = true → Post W) ∧ (listed.getD k0 false = false → Pre W)
  defers : a.defers = a0.defers
  size : a.tmps.size = a0.tmps.size
  out : ∀ t, t ∉ tab.map (·.1) → a.tmps[t]? = a0.tmps[t]?
  told : ∀ (k d : Nat) (R : Told), tab[k]? = some (d, R) → listed.getD k false = true → R (a.tmps.getD d undef) W

def SoftStepP (Rel : World → World → Prop) (P : Program) (ops : Array Oper) (tab : SoftTab) (Q : Exit → Act → World → Prop) (a0 : Act) (w : World) (k : Nat) (o : Oper) : Prop :=
  ∀ a W, Rel w W → (∀ t, t ∉ tab.map (·.1) → a.tmps.getD t undef = a0.tmps.getD t undef) → (∀ e ∈ o.after.toList, Region.binds .any e = true → ∀ (d : Nat) (R : Told), tab[e.on]? = some (d, R) → R (a.tmps.getD d undef) W ∧ d < a.tmps.size) →
    ∀ (d : Nat) (R : Told), tab[k]? = some (d, R) → wpOp P ops Q k (fun a' W' => ∃ v, a' = a.put (some d) v ∧ R v W' ∧ Ext W W') a W
def SoftStepC (Rel : World → World → Prop) (Pre Post : World → Prop) (P : Program) (ops : Array Oper) (tab : SoftTab) (Q : Exit → Act → World → Prop) (a0 : Act) (w : World) (k : Nat) (o : Oper) : Prop :=
  ∀ a W, Rel w W → Pre W → (∀ t, t ∉ tab.map (·.1) → a.tmps.getD t undef = a0.tmps.getD t undef) → (∀ e ∈ o.after.toList, Region.binds .any e = true → ∀ (d : Nat) (R : Told), tab[e.on]? = some (d, R) → R (a.tmps.getD d undef) W ∧ d < a.tmps.size) →
    ∀ (d : Nat) (R : Told), tab[k]? = some (d, R) → wpOp P ops Q k (fun a' W' => ∃ v, a' = a.put (some d) v ∧ R v W' ∧ Rel W W' ∧ Post W') a W

theorem wpAny_softP {Rel : World → World → Prop} {k0 : Nat} {Pre Post : World → Prop} {P : Program} {ops : Array Oper} {n : Nat} {tab : SoftTab} {Q : Exit → Act → World → Prop} {a0 : Act} {w : World} {rest : List Oper}
    (htrans : ∀ a b c, Rel a b → Rel b c → Rel a c)
    (hlen : tab.length = n) (hnd : (tab.map (·.1)).Nodup) (hsz : ∀ d ∈ tab.map (·.1), d < a0.tmps.size)
    (hn : n < ops.size) (hs : Region.sinkB .any ops n = true) (hc : Region.chainB .any ops n = true)
    (hback : ∀ (k : Nat) (o : Oper), k < n → ops[k]? = some o → ∀ e ∈ o.after.toList, Region.binds .any e = true → e.on < k)
    (hmono : ∀ (k d : Nat) (R : Told), tab[k]? = some (d, R) → ∀ (v : Value) (W W' : World), R v W → Rel W W' → R v W')
    (hsub : ∀ a b, Ext a b → Rel a b) (hpre : ∀ a b, Ext a b → Pre a → Pre b) (hpost : ∀ a b, Ext a b → Post a → Post b) (hk0 : k0 < n)
    (hstep : ∀ (k : Nat) (o : Oper), k < n → k ≠ k0 → ops[k]? = some o → SoftStepP Rel P ops tab Q a0 w k o) (hcall : ∀ o, ops[k0]? = some o → SoftStepC Rel Pre Post P ops tab Q a0 w k0 o)
    (hrest : ∀ j, rest[j]? = ops[n + j]?) (hrl : rest.length = ops.size - n) (hseq : Region.seqB .any ops rest.length n (doneTo n ops.size) = true)
    (hend : ∀ a W, SoftAtP Rel k0 Pre Post tab a0 a w W (doneTo n ops.size) → wpList P ops Q rest a W) :
    ∀ (f : Nat) (listed : Array Bool) (a : Act) (W : World), HeadInv .any ops n listed → (listed.toList.take n).count false = f → SoftAtP Rel k0 Pre Post tab a0 a w W listed → wpAny P .any ops Q (f + rest.length) listed a W := by
  intro f
  induction f with
  | zero =>
    intro listed a W inv hcnt hI
    have e : listed = doneTo n ops.size := by
      apply Array.ext
      · rw [inv.size]; simp [doneTo]; omega
      · intro i h1 h2
        rcases Nat.lt_or_ge i n with h | h
        · have hm : listed[i] ∈ listed.toList.take n := by
            rw [List.mem_take_iff_getElem]
            exact ⟨i, by simp; omega, by simp⟩
          have hne : listed[i] ≠ false := fun e => by
            rw [e] at hm
            have := List.count_pos_iff.2 hm
            omega
          have : listed[i] = true := by simpa using hne
          rw [this]
          simp [doneTo, h]
        · have := inv.tail i h (by rw [← inv.size]; exact h1)
          have h3 : listed[i] = false := by simpa [Array.getD, h1] using this
          rw [h3]
          simp [doneTo, List.getElem_append, Nat.not_lt.2 h]
    subst e
    rw [Nat.zero_add]
    exact wpAny_of_seq (md := .any) rest n _ a W hrest hseq (hend a W hI)
  | succ f ih =>
    intro listed a W inv hcnt hI
    have hex : ∃ i, i < n ∧ listed.getD i true = false := by
      have hm : false ∈ listed.toList.take n := List.count_pos_iff.1 (by omega)
      rw [List.mem_take_iff_getElem] at hm
      obtain ⟨i, h1, h2⟩ := hm
      have h1' : i < n ∧ i < listed.size := by simp at h1; omega
      refine ⟨i, h1'.1, ?_⟩
      simp [Array.getD, h1'.2]
      simpa using h2
    obtain ⟨i0, hi0, hun0⟩ := hex
    rw [show f + 1 + rest.length = (f + rest.length) + 1 by omega]
    refine ⟨fun hr => ?_, fun i hi => ?_⟩
    · exfalso
      have key : ∀ k, k < n → listed.getD k false = true := by
        intro k
        induction k using Nat.strongRecOn with
        | ind k ihk =>
          intro hk
          rcases hb : listed.getD k false with _ | _
          · exfalso
            have hk' : k < listed.size := by rw [inv.size]; omega
            have hk2 : k < ops.size := by omega
            have hm : k ∈ Region.ready .any ops listed := by
              rw [mem_ready]
              refine ⟨getD_in hk' hb, ops[k], by simp [hk2], fun e he hb' => ?_⟩
              have hlt := hback k ops[k] hk (by simp [hk2]) e (by simpa using he) hb'
              exact ihk e.on hlt (by omega)
            rw [hr] at hm
            cases hm
          · rfl
      have h9 := key i0 hi0
      rw [getD_both hun0] at h9
      cases h9
    · have hin : i < n := by
        rcases Nat.lt_or_ge i n with h | h
        · exact h
        · exact absurd hi (tail_waits hs hc hn inv _ i0 rfl hi0 hun0 i h)
      obtain ⟨h1, o, ho, hdep⟩ := mem_ready.1 hi
      obtain ⟨⟨d, R⟩, htab⟩ : ∃ p, tab[i]? = some p := ⟨tab[i], List.getElem?_eq_getElem (by omega)⟩
      have hdsz : d < a.tmps.size := by rw [hI.size]; exact hsz d (List.mem_map.2 ⟨(d, R), List.mem_of_getElem? htab, rfl⟩)
      have hdeps : ∀ e ∈ o.after.toList, Region.binds .any e = true → ∀ (d' : Nat) (R' : Told), tab[e.on]? = some (d', R') → R' (a.tmps.getD d' undef) W ∧ d' < a.tmps.size := fun e he hb d' R' ht' =>
        ⟨hI.told e.on d' R' ht' (hdep e (by simpa using he) hb), by rw [hI.size]; exact hsz d' (List.mem_map.2 ⟨(d', R'), List.mem_of_getElem? ht', rfl⟩)⟩
      have hst : wpOp P ops Q i (fun a' W' => ∃ v, a' = a.put (some d) v ∧ R v W' ∧ Rel W W' ∧ ((listed.setIfInBounds i true).getD k0 false = true → Post W') ∧ ((listed.setIfInBounds i true).getD k0 false = false → Pre W')) a W := by
        by_cases hik : i = k0
        · subst hik
          have hf : listed.getD i false = false := getD_both h1
          refine wpOp_mono (fun a' W' hh => ?_) (hcall o ho a W hI.rel (hI.phase.2 hf) (fun t ht => by simp only [Array.getD_eq_getD_getElem?, hI.out t ht]) hdeps d R htab)
          obtain ⟨v, e1, e2, e3, e4⟩ := hh
          have hil' : i < listed.size := by rw [inv.size]; omega
          exact ⟨v, e1, e2, e3, fun _ => e4, fun hh => by simp [hil'] at hh⟩
        · refine wpOp_mono (fun a' W' hh => ?_) (hstep i o hin hik ho a W hI.rel (fun t ht => by simp only [Array.getD_eq_getD_getElem?, hI.out t ht]) hdeps d R htab)
          obtain ⟨v, e1, e2, e3⟩ := hh
          refine ⟨v, e1, e2, hsub _ _ e3, fun hh => hpost _ _ e3 (hI.phase.1 ?_), fun hh => hpre _ _ e3 (hI.phase.2 ?_)⟩
          · rw [getD_set_ne false hik] at hh; exact hh
          · rw [getD_set_ne false hik] at hh; exact hh
      refine wpOp_mono (fun a' W' hh => ?_) hst
      obtain ⟨v, rfl, hR, hx, hph⟩ := hh
      have hil' : i < listed.size := by rw [inv.size]; omega
      refine ih _ _ _ (inv.set hi hin) ?_ ⟨htrans _ _ _ hI.rel hx, hph, hI.defers, by simp only [Act.put, Array.size_setIfInBounds]; exact hI.size, ?_, ?_⟩
      · have e : (listed.toList.take n)[i]? = some false := by
          have h3 : listed[i] = false := by simpa [Array.getD, hil'] using h1
          rw [List.getElem?_take, if_pos hin]
          simp [hil', h3]
        have := count_set (listed.toList.take n) i e
        rw [Array.toList_setIfInBounds, List.take_set]
        omega
      · intro t ht
        have hne : d ≠ t := fun e => ht (e ▸ List.mem_map.2 ⟨(d, R), List.mem_of_getElem? htab, rfl⟩)
        simp only [Act.put]
        rw [Array.getElem?_setIfInBounds_ne hne]
        exact hI.out t ht
      · intro k d2 R2 ht2 hl2
        simp only [Act.put]
        by_cases hki : k = i
        · subst hki
          obtain ⟨rfl, rfl⟩ : d = d2 ∧ R = R2 := by rw [htab] at ht2; injection ht2 with e; injection e with e1 e2; exact ⟨e1, e2⟩
          simp [hdsz]
          exact hR
        · have hne : d ≠ d2 := tab_ne hnd htab ht2 (fun e => hki e.symm)
          have h3 : listed.getD k false = true := by rw [getD_set_ne false (fun e => hki e.symm)] at hl2; exact hl2
          have := hmono k d2 R2 ht2 _ _ _ (hI.told k d2 R2 ht2 h3) hx
          simp only [Array.getD_eq_getD_getElem?, Array.getElem?_setIfInBounds_ne hne]
          simp only [Array.getD_eq_getD_getElem?] at this
          exact this

def SoftAllP (Rel : World → World → Prop) (k0 : Nat) (Pre Post : World → Prop) (P : Program) (ops : Array Oper) (tab : SoftTab) (Q : Exit → Act → World → Prop) (a0 : Act) (w : World) : List Oper → Nat → Prop
  | [], _ => True
  | o :: r, k => (if k = k0 then SoftStepC Rel Pre Post P ops tab Q a0 w k o else SoftStepP Rel P ops tab Q a0 w k o) ∧ SoftAllP Rel k0 Pre Post P ops tab Q a0 w r (k + 1)
theorem softAllP_spec {Rel : World → World → Prop} {k0 : Nat} {Pre Post : World → Prop} {P : Program} {ops : Array Oper} {tab : SoftTab} {Q : Exit → Act → World → Prop} {a0 : Act} {w : World} : ∀ (l : List Oper) (k : Nat), SoftAllP Rel k0 Pre Post P ops tab Q a0 w l k → ∀ (j : Nat) (o : Oper), l[j]? = some o →
    if k + j = k0 then SoftStepC Rel Pre Post P ops tab Q a0 w (k + j) o else SoftStepP Rel P ops tab Q a0 w (k + j) o
  | [], _, _, j, o, h => by simp at h
  | x :: l, k, h, 0, o, ho => by
    obtain rfl : x = o := by simpa using ho
    exact h.1
  | x :: l, k, h, j + 1, o, ho => by
    have := softAllP_spec l (k + 1) h.2 j o (by simpa using ho)
    rwa [Nat.add_assoc, Nat.add_comm 1 j] at this
theorem wp_soft_tailP (Rel : World → World → Prop) (k0 : Nat) (Pre Post : World → Prop) {P : Program} {l : List Oper} (n : Nat) (tab : SoftTab) {Q : Exit → Act → World → Prop} {a : Act} {w : World} {id : Nat} (hm : P.follows .mixedOrders = true)
    (hform : softForm n l = true) (htrans : ∀ a b c, Rel a b → Rel b c → Rel a c) (hsub : ∀ a b, Ext a b → Rel a b) (hpre : ∀ a b, Ext a b → Pre a → Pre b) (hpost : ∀ a b, Ext a b → Post a → Post b) (hk0 : k0 < n) (hw : Pre w)
    (hlen : tab.length = n) (hnd : (tab.map (·.1)).Nodup) (hsz : ∀ d ∈ tab.map (·.1), d < a.tmps.size) (hmono : SoftMonoR Rel tab)
    (hend : ∀ a' W, SoftAtP Rel k0 Pre Post tab a a' w W (doneTo n l.length) → wpList P l.toArray Q (l.drop n) a' W)
    (hstep : SoftAllP Rel k0 Pre Post P l.toArray tab Q a w (l.take n) 0) : (Code.region id l.toArray true).wp P Q a w := by
  unfold softForm at hform
  simp only [Bool.and_eq_true, decide_eq_true_eq] at hform
  obtain ⟨⟨⟨⟨hn, hs⟩, hc⟩, hb⟩, hq⟩ := hform
  have hdl : (l.drop n).length = l.length - n := by simp
  have inv0 : HeadInv .any l.toArray n (Array.replicate l.toArray.size false) :=
    ⟨by simp, fun j oj _ hl => (by rw [getD_replicate_false] at hl; cases hl), fun t _ ht => getD_in (by simpa using ht) (getD_replicate_false _ _)⟩
  refine wp_region_any hm ?_
  have := wpAny_softP (Rel := Rel) (k0 := k0) (Pre := Pre) (Post := Post) (P := P) (ops := l.toArray) (n := n) (tab := tab) (Q := Q) (a0 := a) (w := w) (rest := l.drop n) htrans hlen hnd hsz (by simpa using hn) hs hc
    (fun k o hk ho => softBackN_spec hb k o hk (by simpa using ho)) (fun k d R h v W W' => hmono (d, R) (List.mem_of_getElem? h) v W W')
    hsub hpre hpost hk0
    (fun k o hk hne ho => by
      have := softAllP_spec (l.take n) 0 hstep k o (by rw [List.getElem?_take, if_pos hk]; simpa using ho)
      rw [Nat.zero_add, if_neg hne] at this
      exact this)
    (fun o ho => by
      have := softAllP_spec (l.take n) 0 hstep k0 o (by rw [List.getElem?_take, if_pos hk0]; simpa using ho)
      rw [Nat.zero_add, if_pos rfl] at this
      exact this)
    (fun j => by simp [List.getElem?_drop]) (by simp) (by rw [hdl]; simpa using hq) (fun a' W h => hend a' W (by simpa using h)) n (Array.replicate l.toArray.size false) a { w with drawn := w.drawn + 1 } inv0
    (by
      simp
      omega) ⟨hsub _ _ ((Ext.refl w).drew), ⟨fun hh => (by rw [getD_replicate_false] at hh; cases hh), fun _ => hpre _ _ ((Ext.refl w).drew) hw⟩, rfl, rfl, fun _ _ => rfl, fun k d R h1 h2 => by rw [getD_replicate_false] at h2; cases h2⟩
  rw [hdl] at this
  have e : n + (l.length - n) = l.toArray.size := by simp; omega
  rw [e] at this
  exact this

theorem softP_val {Rel : World → World → Prop} {P : Program} {ops : Array Oper} {tab : SoftTab} {Q : Exit → Act → World → Prop} {a0 : Act} {w : World} {k : Nat} {o : Oper} (d : Nat) (R : Told) (hk : ops[k]? = some o) (hd : o.dst = some d) (htab : tab[k]? = some (d, R))
    (h : ∀ (a : Act) (W : World), Rel w W → (∀ t, t ∉ tab.map (·.1) → a.tmps.getD t undef = a0.tmps.getD t undef) → (∀ e ∈ o.after.toList, Region.binds .any e = true → ∀ (d : Nat) (R : Told), tab[e.on]? = some (d, R) → R (a.tmps.getD d undef) W ∧ d < a.tmps.size) →
      Region.wanted o (yielded ops a.tmps) = true ∧ ∃ v W', (execOp a.eval o).run P W = .ok (.value v) W' ∧ R v W' ∧ Ext W W') : SoftStepP Rel P ops tab Q a0 w k o := by
  intro a W hx hout hdep d' R' ht
  rw [htab] at ht
  injection ht with ht
  injection ht with e1 e2
  subst e1
  subst e2
  obtain ⟨hw, v, W', hrun, hR, hE⟩ := h a W hx hout hdep
  unfold wpOp
  simp only [hk]
  rw [if_pos hw]
  refine Or.inl ?_
  unfold Oper.wp
  rw [hrun, Oper.upon_value, hd]
  exact ⟨v, rfl, hR, hE⟩
theorem softP_call {Rel : World → World → Prop} {P : Program} {ops : Array Oper} {tab : SoftTab} {Q : Exit → Act → World → Prop} {a0 : Act} {w : World} {k : Nat} {o : Oper} (d : Nat) (R : Told) (hk : ops[k]? = some o) (hd : o.dst = some d) (htab : tab[k]? = some (d, R))
    (h : ∀ (a : Act) (W : World), Rel w W → (∀ t, t ∉ tab.map (·.1) → a.tmps.getD t undef = a0.tmps.getD t undef) → (∀ e ∈ o.after.toList, Region.binds .any e = true → ∀ (d : Nat) (R : Told), tab[e.on]? = some (d, R) → R (a.tmps.getD d undef) W ∧ d < a.tmps.size) →
      Region.wanted o (yielded ops a.tmps) = true ∧ ∃ f args, (execOp a.eval o).run P W = .ok (.enter f args) W ∧ Calls P f args W fun e W' => ∃ v, e = .returned v ∧ R v W' ∧ Ext W W') : SoftStepP Rel P ops tab Q a0 w k o := by
  intro a W hx hout hdep d' R' ht
  rw [htab] at ht
  injection ht with ht
  injection ht with e1 e2
  subst e1
  subst e2
  obtain ⟨hw, f, args, hrun, hc⟩ := h a W hx hout hdep
  unfold wpOp
  simp only [hk]
  rw [if_pos hw]
  refine Or.inl ?_
  unfold Oper.wp
  rw [hrun, Oper.upon_enter]
  refine hc.mono ?_
  rintro e W' ⟨v, rfl, hR, hE⟩
  rw [hd]
  exact ⟨v, rfl, hR, hE⟩

theorem softC_call {Rel : World → World → Prop} {Pre Post : World → Prop} {P : Program} {ops : Array Oper} {tab : SoftTab} {Q : Exit → Act → World → Prop} {a0 : Act} {w : World} {k : Nat} {o : Oper} (d : Nat) (R : Told) (hk : ops[k]? = some o) (hd : o.dst = some d) (htab : tab[k]? = some (d, R))
    (h : ∀ (a : Act) (W : World), Rel w W → Pre W → (∀ t, t ∉ tab.map (·.1) → a.tmps.getD t undef = a0.tmps.getD t undef) → (∀ e ∈ o.after.toList, Region.binds .any e = true → ∀ (d : Nat) (R : Told), tab[e.on]? = some (d, R) → R (a.tmps.getD d undef) W ∧ d < a.tmps.size) →
      Region.wanted o (yielded ops a.tmps) = true ∧ ∃ f args, (execOp a.eval o).run P W = .ok (.enter f args) W ∧ Calls P f args W fun e W' => ∃ v, e = .returned v ∧ R v W' ∧ Rel W W' ∧ Post W') : SoftStepC Rel Pre Post P ops tab Q a0 w k o := by
  intro a W hx hpre hout hdep d' R' ht
  rw [htab] at ht
  injection ht with ht
  injection ht with e1 e2
  subst e1
  subst e2
  obtain ⟨hw, f, args, hrun, hc⟩ := h a W hx hpre hout hdep
  unfold wpOp
  simp only [hk]
  rw [if_pos hw]
  refine Or.inl ?_
  unfold Oper.wp
  rw [hrun, Oper.upon_enter]
  refine hc.mono ?_
  rintro e W' ⟨v, rfl, hR, hE, hP⟩
  rw [hd]
  exact ⟨v, rfl, hR, hE, hP⟩

theorem wp_soft_frameP (Rel : World → World → Prop) (k0 : Nat) (Pre Post : World → Prop) {P : Program} {l : List Oper} (n : Nat) (tab : SoftTab) {Q : Exit → Act → World → Prop} {a : Act} {w : World} {id : Nat} (hm : P.follows .mixedOrders = true)
    (hform : softForm n l = true) (htrans : ∀ a b c, Rel a b → Rel b c → Rel a c) (hsub : ∀ a b, Ext a b → Rel a b) (hpre : ∀ a b, Ext a b → Pre a → Pre b) (hpost : ∀ a b, Ext a b → Post a → Post b) (hk0 : k0 < n) (hw : Pre w)
    (hlen : tab.length = n) (hnd : (tab.map (·.1)).Nodup) (hsz : ∀ d ∈ tab.map (·.1), d < a.tmps.size) (hmono : SoftMonoR Rel tab)
    (hend : ∀ (W : World) (vs : List Value), ToldAll tab vs W → Rel w W → Post W → wpList P l.toArray Q (l.drop n) ⟨putAll a.tmps ((tab.map (·.1)).zip vs), a.defers⟩ W)
    (hstep : SoftAllP Rel k0 Pre Post P l.toArray tab Q a w (l.take n) 0) : (Code.region id l.toArray true).wp P Q a w := by
  refine wp_soft_tailP Rel k0 Pre Post n tab hm hform htrans hsub hpre hpost hk0 hw hlen hnd hsz hmono (fun a' W hS => ?_) hstep
  have h1 := hend W (tab.map fun p => a'.tmps.getD p.1 undef) (toldAll_of (f := fun d => a'.tmps.getD d undef) tab fun k d R hk => hS.told k d R hk (by
    have hk' : k < n := by have := (List.getElem?_eq_some_iff.1 hk).1; omega
    simp [doneTo, hk', List.getElem?_append])) hS.rel (hS.phase.1 (by simp [doneTo, hk0, List.getElem?_append]))
  rw [zip_told (fun d => a'.tmps.getD d undef), ← putAll_of a'.tmps _ a.tmps hS.size hS.out, ← hS.defers] at h1
  exact h1

end Go.Proofs.Ytmpomammieenjaa
