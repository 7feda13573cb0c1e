/-
  The walk of RunsBack; no claim stands here.
-/
import Derived.Test.YtjhhohoeeacckaaDoorNTw
namespace Go.Proofs.YtjhhohoeeacckaaDoor
open Go.ChangeShapes Go.WideShapes Go.ChangeAt Go.RowKit Go.Sort
set_option linter.unusedVariables false
attribute [local go_sem] World.cell?_alloc_some

theorem runs_wf : ∀ {l : List It}, wfIs l → ∀ r ∈ runsOf l, wfR r
  | [], _ => by simp [runsOf]
  | x :: l, h => by
    have ih := runs_wf (l := l) fun y hy => h y (List.mem_cons_of_mem _ hy)
    have hx := h x (List.mem_cons_self ..)
    unfold wfI at hx
    have h1 : wfR (one x) := by unfold wfR one; simp only; omega
    intro r hr
    rw [runs_cons] at hr
    cases hl : runsOf l with
    | nil =>
      rw [hl] at hr
      simp [consR] at hr
      subst hr
      exact h1
    | cons q qs =>
      rw [hl] at hr ih
      rw [consR_cons] at hr
      split at hr
      · rcases List.mem_cons.1 hr with rfl | h2
        · unfold wfR glue; simp only; omega
        · exact ih r (List.mem_cons_of_mem _ h2)
      · rcases List.mem_cons.1 hr with rfl | h2
        · exact h1
        · exact ih r h2

set_option maxRecDepth 100000 in
set_option maxHeartbeats 8000000 in
theorem rback_small (B : Option Addr) (m cap' : Nat) (its : List It) (w : World) (hu : ItS w B its) (hm : its.length = m) (hwi : wfIs its) (hT : Tabs w)
    (hb2 : m ≤ 100) : Calls Tryd.prog 4 #[.slice B m cap'] w fun e w' => e = .returned (.bool true) ∧ Ext w w' := by
  have hup := Lib.hid (up5_any w hT)
  have hris := Lib.hid (fun (W : World) (hx : Ext w W) => rising_any B m cap' its W (hu.ext hx) hm (by omega))
  have hrl := ris_le its
  rw [hm] at hrl
  have hrw := Lib.hid (ris_wf hwi)
  obtain ⟨hback, hmay⟩ := back (ris_ok its)
  have hlr := runs_len (risOf its)
  have htx := Lib.hid (runs_text (risOf its))
  have hrr := Lib.hid (runs_wf (ris_wf hwi))
  replace hback := Lib.hid hback
  replace hmay := Lib.hid hmay
  clear hu hm hwi
  generalize risOf its = X at *
  obtain ⟨R, hR⟩ : ∃ R, runsOf X = R := ⟨_, rfl⟩
  replace hR := Lib.hid hR
  rw [hR.out] at hback hmay hlr htx hrr
  have hma : Hid (mayAll R) := Lib.hid fun r hr => ⟨hmay.out r hr, hrr.out r hr⟩
  go_enter Tryd.func4, Tryd.ntmps4
  go_wp2_with fail
  refine hup.out.mono ?_
  rintro e w0 ⟨rfl, x0⟩
  clear hup
  have g2 : decide ((100 : Int) < (m : Int)) = false := by rw [decide_eq_false_iff_not]; omega
  go_wp2_with fail
  refine (hris.out _ x0).mono ?_
  rintro e w1 ⟨v1, rfl, o1, x1⟩
  obtain ⟨A1, k1, rfl, hk1, hS1⟩ := o1.open
  replace hS1 := Lib.hid hS1
  have y1 := x0.trans x1
  clear o1 x0 x1
  go_wp2_with fail
  refine (of_any A1 _ k1 X w1 hS1.out rfl hk1 hrw.out (by omega)).mono ?_
  rintro e w2 ⟨v2, rfl, o2, x2⟩
  rw [hR.out] at o2
  obtain ⟨A2, k2, rfl, hk2, hS2⟩ := o2.open
  replace hS2 := Lib.hid hS2
  have y2 := y1.trans x2
  replace hS1 := Lib.hid (hS1.out.ext x2)
  clear o2 x2
  go_wp2_with fail
  refine (items_any A2 _ k2 R w2 hS2.out rfl hma.out (by omega) (by rw [hback.out]; omega)).mono ?_
  rintro e w3 ⟨v3, rfl, o3, x3⟩
  rw [hback.out] at o3
  obtain ⟨A3, k3, rfl, hk3, hS3⟩ := o3.open
  replace hS3 := Lib.hid hS3
  have y3 := y2.trans x3
  replace hS1 := Lib.hid (hS1.out.ext x3)
  replace hS2 := Lib.hid (hS2.out.ext x3)
  clear o3 x3
  go_wp2_with fail
  refine (sameI_any A3 A1 _ k3 k1 X w3 hS3.out hS1.out rfl (by omega)).mono ?_
  rintro e w4 ⟨rfl, x4⟩
  have y4 := y3.trans x4
  replace hS2 := Lib.hid (hS2.out.ext x4)
  clear x4 hS1 hS3
  go_wp2_with fail
  refine (items_any A2 _ k2 R w4 hS2.out rfl hma.out (by omega) (by rw [hback.out]; omega)).mono ?_
  rintro e w5 ⟨v5, rfl, o5, x5⟩
  rw [hback.out] at o5
  obtain ⟨A5, k5, rfl, hk5, hS5⟩ := o5.open
  replace hS5 := Lib.hid hS5
  have y5 := y4.trans x5
  replace hS2 := Lib.hid (hS2.out.ext x5)
  clear o5 x5
  go_wp2_with fail
  refine (of_any A5 _ k5 X w5 hS5.out rfl hk5 hrw.out (by omega)).mono ?_
  rintro e w6 ⟨v6, rfl, o6, x6⟩
  rw [hR.out] at o6
  obtain ⟨A6, k6, rfl, hk6, hS6⟩ := o6.open
  replace hS6 := Lib.hid hS6
  have y6 := y5.trans x6
  replace hS2 := Lib.hid (hS2.out.ext x6)
  clear o6 x6 hS5
  go_wp2_with fail
  refine (sameR_any A6 A2 _ k6 k2 R w6 hS6.out hS2.out rfl (by omega)).mono ?_
  rintro e w7 ⟨rfl, x7⟩
  have y7 := y6.trans x7
  replace hS2 := Lib.hid (hS2.out.ext x7)
  clear x7 hS6
  have g3 : decide (X.length < R.length) = false := by rw [decide_eq_false_iff_not]; omega
  go_wp2
  have hT7 := hT.ext y7
  go_loopw [7] (fun i W => ∃ (k : Nat), k ≤ R.length ∧ i = Vi k ∧ Ext w7 W) (fun i _ => R.length - (intOf i).toNat)
  case atStart => exact ⟨0, Nat.zero_le _, rfl, Ext.refl _⟩
  case round =>
    obtain ⟨k, hk, rfl, hx⟩ := hrel
    by_cases hlt : k < R.length
    · obtain ⟨b, o, r, rfl, hp, d⟩ := hS2.out.at (k := k) hlt
      have hm := List.mem_of_getElem? hp
      obtain ⟨c0, c1, c2, c3, c4, c5, c6⟩ := d.ext hx
      have hwr := hrr.out r hm
      have ht := htx.out r hm
      have hc2 := Lib.hid (may_any r wr (hT7.ext hx) hwr.2.2.1 hwr.2.2.2.1 (by omega))
      rw [hmay.out r hm] at hc2
      clear hp d hm ht hwr
      go_wp2_with fail
      refine hc2.out.mono ?_
      rintro e w8 ⟨rfl, x8⟩
      go_wp2
      go_roundw
      case rel => exact ⟨k + 1, by omega, by go_num, hx.trans x8⟩
      case measure => simp [intOf]; omega
    · go_wp2
      go_ret
      exact ⟨rfl, y7.trans hx⟩

set_option maxRecDepth 100000 in
set_option maxHeartbeats 4000000 in
theorem rback_great (B : Option Addr) (m cap' : Nat) (w : World) (hT : Tabs w) (hb : 100 < m) : Calls Tryd.prog 4 #[.slice B m cap'] w fun e w' => e = .returned (.bool true) ∧ Ext w w' := by
  have g2 : decide ((100 : Int) < (m : Int)) = true := by rw [decide_eq_true_eq]; omega
  go_enter Tryd.func4, Tryd.ntmps4
  go_wp2_with fail
  refine (up5_any w hT).mono ?_
  rintro e w0 ⟨rfl, x0⟩
  go_wp2
  go_ret
  exact ⟨rfl, x0⟩

theorem runsBack_walk (w : World) (hT : Tabs w) (B : Option Addr) (m cap' : Nat) (its : List It) (hn1 : its.length = m) (hc1 : m ≤ cap') (hm1 : m ≤ maxLen) (hs1 : ItS w B its) (hw1 : wfIs its) :
    Calls Tryd.prog 4 #[.slice B m cap'] w fun e w' => e = .returned (.bool true) ∧ Ext w w' := by
  by_cases h : 100 < m
  · exact rback_great B m cap' w hT h
  · exact rback_small B m cap' its w hs1 hn1 hw1 hT (by omega)

end Go.Proofs.YtjhhohoeeacckaaDoor
