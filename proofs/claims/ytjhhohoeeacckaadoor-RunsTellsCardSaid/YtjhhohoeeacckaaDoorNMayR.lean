/-
  Contract of the reference's MayRun; no claim stands here.
-/
import Derived.Test.YtjhhohoeeacckaaDoorNTog
import Derived.Test.YtjhhohoeeacckaaDoorNAdd
import Derived.Test.YtjhhohoeeacckaaDoorChr
namespace Go.Proofs.YtjhhohoeeacckaaDoor
open Go.ChangeShapes Go.WideShapes Go.ChangeAt Go.RowKit Go.Sort
set_option linter.unusedVariables false
attribute [local go_sem] World.cell?_alloc_some

theorem may_false {r : Rn} (h : Lib.validD r.t = false ∨ (runesD r.t).length = 0 ∨ r.c = 0 ∨ 4294967294 < r.k + (runesD r.t).length - 1) : mayN r = false := by
  unfold mayN
  rw [decide_eq_false_iff_not]
  rintro ⟨h1, h2, h3, h4⟩
  rcases h with h | h | h | h
  · rw [h1] at h; cases h
  · omega
  · exact h3 h
  · omega
theorem may_true {r : Rn} (h1 : Lib.validD r.t = true) (h2 : 0 < (runesD r.t).length) (h3 : r.c ≠ 0) (h4 : r.k + (runesD r.t).length - 1 ≤ 4294967294) : mayN r = true := by
  unfold mayN
  rw [decide_eq_true_eq]
  exact ⟨h1, h2, h3, h4⟩

set_option maxRecDepth 100000 in
set_option maxHeartbeats 2000000 in
theorem mayRef_any (r : Rn) (w : World) (hk0 : 0 ≤ r.k) (hk1 : r.k ≤ 4294967295) (ht : r.t.length ≤ 200000) :
    Calls Tryd.prog 6 #[rnv r] w fun e w' => e = .returned (.bool (mayN r)) ∧ Ext w w' := by
  have hl := runesD_len r.t
  have hcall := Lib.hid (fun W => chars_any ⟨r.t.toArray⟩ (by show r.t.toArray.size ≤ _; simp; omega) W)
  go_enter Tryd.func6, Tryd.ntmps6
  go_wp2_with fail
  refine (hcall.out _).mono ?_
  rintro e w1 ⟨hret, x1⟩
  have hret : (Lib.validD r.t = false ∧ e = .returned (.tuple #[.slice none 0 0, .bool false]) ∨ Lib.validD r.t = true ∧ ∃ v, e = .returned (.tuple #[v, .bool true]) ∧ OwnU _ w1 v (runesD r.t)) := hret
  rcases hret with ⟨hv, rfl⟩ | ⟨hv, v, rfl, hu⟩
  · have hm := Lib.hid (may_false (r := r) (.inl hv))
    go_wp2
    go_ret
    exact ⟨ret_bool (a := false) hm.out.symm, ((Ext.refl _).alloc _).trans x1⟩
  · obtain ⟨A, c, rfl, hc⟩ := OwnG.form hu
    have a0 := x1.keep (p := ⟨w.heap.size, 0, none⟩) (v := Vu r.c) (by simp [go_sem])
    have a1 := x1.keep (p := ⟨w.heap.size, 1, none⟩) (v := Vu r.k) (by simp [go_sem])
    replace x1 := ((Ext.refl w).alloc _).trans x1
    clear hu
    generalize w.heap.size = pa at *
    by_cases h1 : (runesD r.t).length = 0
    · have hm := Lib.hid (may_false (r := r) (.inr (.inl h1)))
      rw [h1]
      clear h1 hl hv
      go_wp2
      go_ret
      exact ⟨ret_bool (a := false) hm.out.symm, x1⟩
    · have g1 : (0 : Int) < ((runesD r.t).length : Int) := by omega
      by_cases h2 : r.c = 0
      · have hm := Lib.hid (may_false (r := r) (.inr (.inr (.inl h2))))
        rw [h2] at a0
        clear hv h1
        go_wp2
        go_ret
        exact ⟨ret_bool (a := false) hm.out.symm, x1⟩
      · have g2 : (r.c != 0) = true := by simpa using h2
        by_cases h3 : r.k + (runesD r.t).length - 1 ≤ 4294967294
        · have hm := Lib.hid (may_true hv (by omega) h2 h3)
          clear hv h1 h2
          go_wp2
          go_ret
          exact ⟨ret_bool (by first | (rw [hm.out]; done) | (rw [hm.out]; exact decide_eq_true h3)), x1⟩
        · have hm := Lib.hid (may_false (r := r) (.inr (.inr (.inr (by omega)))))
          clear hv h1 h2
          go_wp2
          go_ret
          exact ⟨ret_bool (by rw [hm.out]; exact decide_eq_false (by omega)), x1⟩

end Go.Proofs.YtjhhohoeeacckaaDoor
