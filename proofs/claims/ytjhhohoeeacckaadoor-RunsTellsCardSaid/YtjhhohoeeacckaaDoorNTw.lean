/-
  The walks of RunsTells and RunsBack; no claim stands here.
-/
import Derived.Test.YtjhhohoeeacckaaDoorNUp
import Derived.Test.YtjhhohoeeacckaaDoorNRis
import Derived.Test.YtjhhohoeeacckaaDoorNItR
import Derived.Test.YtjhhohoeeacckaaDoorNRunR
import Derived.Test.YtjhhohoeeacckaaDoorNSame
namespace Go.Proofs.YtjhhohoeeacckaaDoor
open Go.ChangeShapes Go.WideShapes Go.ChangeAt Go.RowKit Go.Sort
set_option linter.unusedVariables false
attribute [local go_sem] World.cell?_alloc_some

/-- the runs that may be -/
def mayL (l : List Rn) : List Rn := l.filter mayN
theorem mayL_yes {l : List Rn} {k : Nat} {r : Rn} (h : l[k]? = some r) (hm : mayN r = true) : mayL (l.take (k + 1)) = mayL (l.take k) ++ [r] := by
  rw [List.take_add_one, h, mayL, List.filter_append]
  simp [mayL, hm]
theorem mayL_no {l : List Rn} {k : Nat} {r : Rn} (h : l[k]? = some r) (hm : mayN r = false) : mayL (l.take (k + 1)) = mayL (l.take k) := by
  rw [List.take_add_one, h, mayL, List.filter_append]
  simp [mayL, hm]
theorem mayL_len (l : List Rn) : (mayL l).length ≤ l.length := List.length_filter_le _ _
theorem itemsOf_len : ∀ (l : List Rn), (∀ r ∈ l, r.t.length ≤ 200) → (itemsOf l).length ≤ 200 * l.length
  | [], _ => by simp [itemsOf]
  | r :: l, h => by
    rw [items_cons, List.length_append, itemsR_len, List.length_cons]
    have h1 := itemsOf_len l fun q hq => h q (List.mem_cons_of_mem _ hq)
    have h2 := runesD_len r.t
    have h3 := h r (List.mem_cons_self ..)
    omega

set_option maxRecDepth 100000 in
set_option maxHeartbeats 8000000 in
theorem rtells_small (A : Option Addr) (n cap : Nat) (l : List Rn) (B : Option Addr) (m cap' : Nat) (its : List It) (w : World) (hv : RnS w A l) (hn : l.length = n) (hw : ∀ r ∈ l, wfR r) (hu : ItS w B its) (hm : its.length = m) (hwi : wfIs its) (hT : Tabs w)
    (hb : n ≤ 40) (hb2 : m ≤ 100) : Calls Tryd.prog 3 #[.slice A n cap, .slice B m cap'] w fun e w' => e = .returned (.bool true) ∧ Ext w w' := by
  have hup := Lib.hid (up5_any w hT)
  have hris := Lib.hid (fun (W : World) (hx : Ext w W) => rising_any B m cap' its W (hu.ext hx) hm (by omega))
  have hrl := ris_le its
  rw [hm] at hrl
  have hrw := Lib.hid (ris_wf hwi)
  replace hn := Lib.hid hn
  replace hv := Lib.hid hv
  replace hw := Lib.hid hw
  clear hu hm hwi
  go_enter Tryd.func3, Tryd.ntmps3
  go_wp2_with fail
  refine hup.out.mono ?_
  rintro e w0 ⟨rfl, x0⟩
  clear hup
  have g1 : decide ((40 : Int) < (n : Int)) = false := by rw [decide_eq_false_iff_not]; omega
  have g2 : decide ((100 : Int) < (m : Int)) = false := by rw [decide_eq_false_iff_not]; omega
  go_wp2
  go_loopw [6, 7] (fun v i W => ∃ (k : Nat), k ≤ n ∧ i = Vi k ∧ Hid (OwnR w W v (mayL (l.take k))) ∧ Ext w W ∧ Hid (∀ r ∈ l.take k, r.t.length ≤ 200)) (fun _ i _ => n - (intOf i).toNat)
  case atStart => exact ⟨0, Nat.zero_le _, rfl, Lib.hid (OwnR.nil _ _), x0, Lib.hid (by simp)⟩
  case round =>
    obtain ⟨k, hk, rfl, ho, hx, hsm⟩ := hrel
    by_cases hlt : k < n
    · obtain ⟨b, o, r, rfl, hp, d⟩ := hv.out.at (k := k) (by rw [hn.out]; exact hlt)
      have hwr := hw.out r (List.mem_of_getElem? hp)
      have dk := Lib.hid (d.ext hx)
      obtain ⟨c0, c1, c2, c3, c4, c5, c6⟩ := dk.out
      have hlen : (mayL (l.take k)).length ≤ k := Nat.le_trans (mayL_len _) (by rw [List.length_take]; omega)
      by_cases hbig : 200 < r.t.length
      · clear hp d dk
        go_wp2
        go_ret
        exact ⟨rfl, hx⟩
      · have hsm2 := Lib.hid (show ∀ q ∈ l.take (k + 1), q.t.length ≤ 200 by
          rw [List.take_add_one, hp]
          intro q hq
          rcases List.mem_append.1 hq with h | h
          · exact hsm.out q h
          · simp at h; subst h; omega)
        have hc1 := Lib.hid (fun W => mayRef_any r W hwr.2.2.1 hwr.2.2.2.1 (by omega))
        have hc2 := Lib.hid (fun (W : World) (hx : Ext w W) => may_any r W (hT.ext hx) hwr.2.2.1 hwr.2.2.2.1 (by omega))
        have gb : ¬ (200 < r.t.length) := hbig
        cases hma : mayN r with
        | false =>
          have hst := Lib.hid (mayL_no hp hma)
          rw [hma] at hc1 hc2
          clear hp d hma hwr
          go_wp2_with fail
          refine (hc1.out _).mono ?_
          rintro e w1 ⟨rfl, x1⟩
          obtain ⟨c0, c1, c2, c3, c4, c5, c6⟩ := dk.out.ext x1
          have hx1 := hx.trans x1
          go_wp2_with fail
          refine (hc2.out _ hx1).mono ?_
          rintro e w2 ⟨rfl, x2⟩
          have o2 := Lib.hid ((ho.out.ext x1).ext x2)
          have hx2 := hx1.trans x2
          go_wp2
          go_roundw
          case rel => exact ⟨k + 1, by omega, by go_num, Lib.hid (by rw [hst.out]; exact o2.out), hx2, hsm2⟩
          case measure => simp [intOf]; omega
        | true =>
          have hst := Lib.hid (mayL_yes hp hma)
          rw [hma] at hc1 hc2
          clear hp d hma hwr
          go_wp2_with fail
          refine (hc1.out _).mono ?_
          rintro e w1 ⟨rfl, x1⟩
          obtain ⟨c0, c1, c2, c3, c4, c5, c6⟩ := dk.out.ext x1
          have hx1 := hx.trans x1
          go_wp2_with fail
          refine (hc2.out _ hx1).mono ?_
          rintro e w2 ⟨rfl, x2⟩
          obtain ⟨c0, c1, c2, c3, c4, c5, c6⟩ := (dk.out.ext x1).ext x2
          have o2 := Lib.hid ((ho.out.ext x1).ext x2)
          have hx2 := hx1.trans x2
          go_wp2_with (first
            | (at_builtin
               refine wpList_append_R (w0 := w) rfl (.tmp 48) (.tmp 53) rfl _ (mayL (l.take k)) rfl (o2.out.ext ((Ext.refl _).alloc _)) (hx2.alloc _) _ 1 1 [r] rfl rfl (RnS.new _ r) (by simp only [List.length_cons, List.length_nil]; omega) ?_
               intro v3 w3 o3 x3 g3 b3))
          go_roundw
          case rel => exact ⟨k + 1, by omega, by go_num, Lib.hid (by rw [hst.out]; exact o3), x3, hsm2⟩
          case measure => simp [intOf]; omega
    · have hd := Lib.hid (show l.take k = l from List.take_of_length_le (by rw [hn.out]; omega))
      rw [hd.out] at ho hsm
      obtain ⟨A', c', rfl, hcc, hS⟩ := ho.out.open
      have hml : (mayL l).length ≤ 40 := by have := mayL_len l; rw [hn.out] at this; omega
      have hmall : mayAll (mayL l) := fun r hr => by
        have h := List.mem_filter.1 hr
        exact ⟨h.2, hw.out r h.1⟩
      have hm200 : ∀ r ∈ mayL l, r.t.length ≤ 200 := fun r hr => hsm.out r (List.mem_filter.1 hr).1
      have hil := itemsOf_len _ hm200
      have hc1 := Lib.hid (fun (W : World) (hx : Ext wr W) => items_any A' (mayL l).length c' (mayL l) W (hS.ext hx) rfl hmall (by omega) (by omega))
      have hc2 := Lib.hid (fun (W : World) (hx : Ext wr W) => itemsRef_any A' (mayL l).length c' (mayL l) W (hS.ext hx) rfl hmall (by omega) (by omega) (fun r hr => by have := hm200 r hr; omega))
      clear hmall hm200 hd
      generalize mayL l = L at *
      go_wp2_with fail
      refine (hris.out _ hx).mono ?_
      rintro e w1 ⟨v1, rfl, o1, x1⟩
      obtain ⟨A1, k1, rfl, hk1, hS1⟩ := o1.open
      replace hS1 := Lib.hid hS1
      clear o1
      go_wp2_with fail
      refine (hc1.out _ x1).mono ?_
      rintro e w2 ⟨v2, rfl, o2, x2⟩
      obtain ⟨A2, k2, rfl, hk2, hS2⟩ := o2.open
      replace hS2 := Lib.hid hS2
      clear o2
      go_wp2_with fail
      refine (hc2.out _ (x1.trans x2)).mono ?_
      rintro e w3 ⟨v3, rfl, o3, x3⟩
      obtain ⟨A3, k3, rfl, hk3, hS3⟩ := o3.open
      replace hS3 := Lib.hid hS3
      clear o3
      go_wp2_with fail
      refine (sameI_any A2 A3 _ k2 k3 (itemsOf L) w3 (hS2.out.ext x3) hS3.out rfl (by omega)).mono ?_
      rintro e w4 ⟨rfl, x4⟩
      have hx14 : Ext w1 w4 := (x2.trans x3).trans x4
      go_wp2_with fail
      refine (of_any A1 _ k1 (risOf its) w4 (hS1.out.ext hx14) rfl hk1 hrw.out (by omega)).mono ?_
      rintro e w5 ⟨v5, rfl, o5, x5⟩
      obtain ⟨A5, k5, rfl, hk5, hS5⟩ := o5.open
      replace hS5 := Lib.hid hS5
      clear o5
      go_wp2_with fail
      refine (runsRef_any A1 _ k1 (risOf its) w5 (hS1.out.ext (hx14.trans x5)) rfl hrw.out (by omega)).mono ?_
      rintro e w6 ⟨v6, rfl, o6, x6⟩
      obtain ⟨A6, k6, rfl, hk6, hS6⟩ := o6.open
      replace hS6 := Lib.hid hS6
      clear o6
      go_wp2_with fail
      refine (sameR_any A5 A6 _ k5 k6 (runsOf (risOf its)) w6 (hS5.out.ext x6) hS6.out rfl (by have := runs_len (risOf its); omega)).mono ?_
      rintro e w7 ⟨rfl, x7⟩
      go_wp2
      go_ret
      exact ⟨rfl, ((((hx.trans x1).trans hx14).trans x5).trans x6).trans x7⟩

set_option maxRecDepth 100000 in
set_option maxHeartbeats 4000000 in
theorem rtells_great (A : Option Addr) (n cap : Nat) (B : Option Addr) (m cap' : Nat) (w : World) (hT : Tabs w) (hb : 40 < n ∨ 100 < m) : Calls Tryd.prog 3 #[.slice A n cap, .slice B m cap'] w fun e w' => e = .returned (.bool true) ∧ Ext w w' := by
  by_cases h1 : 40 < n
  · have g1 : decide ((40 : Int) < (n : Int)) = true := by rw [decide_eq_true_eq]; omega
    go_enter Tryd.func3, Tryd.ntmps3
    go_wp2_with fail
    refine (up5_any w hT).mono ?_
    rintro e w0 ⟨rfl, x0⟩
    go_wp2
    go_ret
    exact ⟨rfl, x0⟩
  · have g1 : decide ((40 : Int) < (n : Int)) = false := by rw [decide_eq_false_iff_not]; omega
    have g2 : decide ((100 : Int) < (m : Int)) = true := by rw [decide_eq_true_eq]; omega
    go_enter Tryd.func3, Tryd.ntmps3
    go_wp2_with fail
    refine (up5_any w hT).mono ?_
    rintro e w0 ⟨rfl, x0⟩
    go_wp2
    go_ret
    exact ⟨rfl, x0⟩

theorem runsTells_walk (w : World) (hT : Tabs w) (A : Option Addr) (n cap : Nat) (l : List Rn) (hn : l.length = n) (hc : n ≤ cap) (hm : n ≤ maxLen) (hs : RnS w A l) (hw : ∀ q ∈ l, wfR q ∧ q.t.length ≤ maxLen)
    (B : Option Addr) (m cap' : Nat) (its : List It) (hn1 : its.length = m) (hc1 : m ≤ cap') (hm1 : m ≤ maxLen) (hs1 : ItS w B its) (hw1 : wfIs its) :
    Calls Tryd.prog 3 #[.slice A n cap, .slice B m cap'] w fun e w' => e = .returned (.bool true) ∧ Ext w w' := by
  by_cases h : 40 < n ∨ 100 < m
  · exact rtells_great A n cap B m cap' w hT h
  · exact rtells_small A n cap l B m cap' its w hs hn (fun r hr => (hw r hr).1) hs1 hn1 hw1 hT (by omega) (by omega)

end Go.Proofs.YtjhhohoeeacckaaDoor
