/-
  Contracts of runs.goesOn, of the reference's On and Valid; no claim stands here.
-/
import Derived.Test.YtjhhohoeeacckaaDoorNMem
namespace Go.Proofs.YtjhhohoeeacckaaDoor
open Go.ChangeShapes Go.WideShapes Go.ChangeAt Go.RowKit Go.Sort
set_option linter.unusedVariables false
attribute [local go_sem] World.cell?_alloc_some
attribute [local go_sem ↓] id_eql

def okB (c : Int) : Bool := decide (0 ≤ c ∧ c ≤ 1114111 ∧ (c < 55296 ∨ 57343 < c))
theorem valid_any (c : Int) (w : World) : Calls Tryd.prog 19 #[.int .i32 c] w fun e w' => e = .returned (.bool (okB c)) ∧ w = w' := by
  go_enter Tryd.func19, Tryd.ntmps19
  go_wp2
  all_goals go_ret
  all_goals refine ⟨ret_bool ?_, rfl⟩
  all_goals (rw [Bool.eq_iff_iff]; simp [okB]; try omega)

theorem aft_no {x : It} (h : x.c = 0 ∨ 4294967294 < x.k + 1) : ∃ e : Int, (e = 1 ∨ e = 4) ∧ aftId x.c x.k 1 4294967294 = (0, 0, e) := by
  unfold aftId
  by_cases h0 : x.c = 0
  · exact ⟨1, .inl rfl, by rw [if_pos (by omega)]⟩
  · exact ⟨4, .inr rfl, by rw [if_neg (by omega), if_pos (by omega)]⟩
theorem aft_yes {x : It} (h : x.c ≠ 0) (h1 : x.k + 1 ≤ 4294967294) : aftId x.c x.k 1 4294967294 = (x.c, x.k + 1, 0) := by
  unfold aftId
  rw [if_neg (by omega), if_neg (by omega)]
theorem on_no {x y : It} (h : x.c = 0 ∨ 4294967294 < x.k + 1) : onI x y = false := by unfold onI; rw [decide_eq_false_iff_not]; omega
theorem on_yes {x y : It} (h : x.c ≠ 0) (h1 : x.k + 1 ≤ 4294967294) : onI x y = (idEq y.c y.k x.c (x.k + 1) && idEq y.lc y.lk x.c x.k && idEq y.rc y.rk x.rc x.rk) := by
  unfold onI idEq
  rw [Bool.eq_iff_iff]
  simp
  omega

set_option maxRecDepth 100000 in
set_option maxHeartbeats 2000000 in
theorem goesOn_any (x y : It) (w : World) (h0 : 0 ≤ x.k) (h1 : x.k ≤ 4294967295) : Calls Tryd.prog 27 #[itv x, itv y] w fun e w' => e = .returned (.bool (onI x y)) ∧ Ext w w' := by
  by_cases hno : x.c = 0 ∨ 4294967294 < x.k + 1
  · obtain ⟨z, hz, ha⟩ := aft_no hno
    rw [on_no hno]
    clear hno
    have hcall := Lib.hid (fun W => after_err W ha (by omega) h0 h1 (by omega) (by omega) (by omega) (by omega))
    clear ha
    go_enter Tryd.func27, Tryd.ntmps27
    go_wp2_with fail
    refine (hcall.out _).mono ?_
    rintro e w1 ⟨rfl, x1⟩
    replace x1 := (((Ext.refl w).alloc _).alloc _).trans x1
    go_wp2
    go_ret
    exact ⟨rfl, x1.alloc _⟩
  · have hc0 : x.c ≠ 0 := by omega
    have hk0 : x.k + 1 ≤ 4294967294 := by omega
    rw [on_yes hc0 hk0]
    have hcall := Lib.hid (fun W => after_nil W (aft_yes hc0 hk0) h0 h1 (by omega) (by omega) (by omega) (by omega))
    clear hno hc0 hk0
    go_enter Tryd.func27, Tryd.ntmps27
    go_wp2_with fail
    refine (hcall.out _).mono ?_
    rintro e w1 ⟨rfl, x1⟩
    have a0 := x1.keep (p := ⟨w.heap.size, 0, none⟩) (v := Vu x.c) (by simp [go_sem])
    have a1 := x1.keep (p := ⟨w.heap.size, 1, none⟩) (v := Vu x.k) (by simp [go_sem])
    have a4 := x1.keep (p := ⟨w.heap.size, 4, none⟩) (v := Vu x.rc) (by simp [go_sem])
    have a5 := x1.keep (p := ⟨w.heap.size, 5, none⟩) (v := Vu x.rk) (by simp [go_sem])
    have b0 := x1.keep (p := ⟨w.heap.size + 1, 0, none⟩) (v := Vu y.c) (by simp [go_sem])
    have b1 := x1.keep (p := ⟨w.heap.size + 1, 1, none⟩) (v := Vu y.k) (by simp [go_sem])
    have b2 := x1.keep (p := ⟨w.heap.size + 1, 2, none⟩) (v := Vu y.lc) (by simp [go_sem])
    have b3 := x1.keep (p := ⟨w.heap.size + 1, 3, none⟩) (v := Vu y.lk) (by simp [go_sem])
    have b4 := x1.keep (p := ⟨w.heap.size + 1, 4, none⟩) (v := Vu y.rc) (by simp [go_sem])
    have b5 := x1.keep (p := ⟨w.heap.size + 1, 5, none⟩) (v := Vu y.rk) (by simp [go_sem])
    replace x1 := (((Ext.refl w).alloc _).alloc _).trans x1
    generalize w.heap.size + 1 = pb at *
    generalize w.heap.size = pa at *
    cases g1 : idEq y.c y.k x.c (x.k + 1) <;> cases g2 : idEq y.lc y.lk x.c x.k <;> cases g3 : idEq y.rc y.rk x.rc x.rk
    all_goals
      go_wp2
      go_ret
      exact ⟨by rw [g1, g2, g3]; rfl, x1.alloc _⟩

theorem afterRef_at {a b n l x y c : Int} (w : World) (h : aftId a b n l = (x, y, c)) (hb0 : 0 ≤ b) (hb1 : b ≤ 4294967295) (hn0 : -9223372036854775808 ≤ n) (hn1 : n ≤ 9223372036854775807) (hl0 : 0 ≤ l) (hl1 : l ≤ 4294967295) :
    Calls Tryd.prog 30 #[idv a b, Vi n, Vu l] w fun e w' => e = .returned (.tuple #[idv x y, Vi c]) ∧ Ext w w' := by
  have := afterRef_any a b n l w hb0 hb1 hn0 hn1 hl0 hl1
  rw [h] at this
  exact this
set_option maxRecDepth 100000 in
set_option maxHeartbeats 2000000 in
theorem onRef_any (x y : It) (w : World) (h0 : 0 ≤ x.k) (h1 : x.k ≤ 4294967295) : Calls Tryd.prog 24 #[itv y, itv x] w fun e w' => e = .returned (.bool (onI x y)) ∧ Ext w w' := by
  by_cases hno : x.c = 0 ∨ 4294967294 < x.k + 1
  · obtain ⟨z, hz, ha⟩ := aft_no hno
    rw [on_no hno]
    clear hno
    have hcall := Lib.hid (fun W => afterRef_at W ha h0 h1 (by omega) (by omega) (by omega) (by omega))
    clear ha
    go_enter Tryd.func24, Tryd.ntmps24
    go_wp2_with fail
    refine (hcall.out _).mono ?_
    rintro e w1 ⟨rfl, x1⟩
    replace x1 := (((Ext.refl w).alloc _).alloc _).trans x1
    have hz' : (z == 0) = false := by simp; omega
    clear hz
    go_wp2
    go_ret
    exact ⟨rfl, x1.alloc _⟩
  · have hc0 : x.c ≠ 0 := by omega
    have hk0 : x.k + 1 ≤ 4294967294 := by omega
    rw [on_yes hc0 hk0]
    have hcall := Lib.hid (fun W => afterRef_at W (aft_yes hc0 hk0) h0 h1 (by omega) (by omega) (by omega) (by omega))
    clear hno hc0 hk0
    go_enter Tryd.func24, Tryd.ntmps24
    go_wp2_with fail
    refine (hcall.out _).mono ?_
    rintro e w1 ⟨rfl, x1⟩
    have a0 := x1.keep (p := ⟨w.heap.size + 1, 0, none⟩) (v := Vu x.c) (by simp [go_sem])
    have a1 := x1.keep (p := ⟨w.heap.size + 1, 1, none⟩) (v := Vu x.k) (by simp [go_sem])
    have a4 := x1.keep (p := ⟨w.heap.size + 1, 4, none⟩) (v := Vu x.rc) (by simp [go_sem])
    have a5 := x1.keep (p := ⟨w.heap.size + 1, 5, none⟩) (v := Vu x.rk) (by simp [go_sem])
    have b0 := x1.keep (p := ⟨w.heap.size, 0, none⟩) (v := Vu y.c) (by simp [go_sem])
    have b1 := x1.keep (p := ⟨w.heap.size, 1, none⟩) (v := Vu y.k) (by simp [go_sem])
    have b2 := x1.keep (p := ⟨w.heap.size, 2, none⟩) (v := Vu y.lc) (by simp [go_sem])
    have b3 := x1.keep (p := ⟨w.heap.size, 3, none⟩) (v := Vu y.lk) (by simp [go_sem])
    have b4 := x1.keep (p := ⟨w.heap.size, 4, none⟩) (v := Vu y.rc) (by simp [go_sem])
    have b5 := x1.keep (p := ⟨w.heap.size, 5, none⟩) (v := Vu y.rk) (by simp [go_sem])
    replace x1 := (((Ext.refl w).alloc _).alloc _).trans x1
    generalize w.heap.size + 1 = pb at *
    generalize w.heap.size = pa at *
    cases g1 : idEq y.c y.k x.c (x.k + 1) <;> cases g2 : idEq y.lc y.lk x.c x.k <;> cases g3 : idEq y.rc y.rk x.rc x.rk
    all_goals
      go_wp2
      go_ret
      exact ⟨by rw [g1, g2, g3]; rfl, x1.alloc _⟩

end Go.Proofs.YtjhhohoeeacckaaDoor
