/-
  Contract of vector's Merge; no claim stands here.
-/
import Derived.Test.YtbniojfggiioaaaVecSetRef
import Derived.Deep.DeepCutAuto
import Derived.BigRegion
namespace Go.Proofs.Ytbniojfggiioaaa
open Go.ChangeShapes Go.WideShapes Go.ChangeAt Go.RowKit Go.Sort
set_option linter.unusedVariables false

theorem OwnC.ext {w W W' : World} {v : Value} {l : List (Int × Int)} (h : OwnC w W v l) (hx : Ext W W') : OwnC w W' v l := by
  unfold OwnC at h ⊢
  rcases h with ⟨h1, h2 | ⟨g, cap, cur, h2, h3, h4, h5⟩⟩
  · exact ⟨h1, .inl h2⟩
  · refine ⟨h1, .inr ⟨g, cap, cur, h2, h3, ?_, h5⟩⟩
    have hg : g < W.heap.size := by
      rcases Nat.lt_or_ge g W.heap.size with k | k
      · exact k
      · rw [Array.getElem?_eq_none k] at h4; cases h4
    rw [RowKit.Below.block hx g hg]; exact h4

attribute [local go_sem] World.cell?_alloc_some

/-- what the loop of Merge keeps -/
def MrgKeep (w : World) (N : Nat) (L : List (Int × Int)) (kx : Nat) (s0 s1 s5 : Value) (W : World) : Prop :=
  ∃ (la lb lo : List (Int × Int)) (A B : Option Addr) (n m ca cb : Nat), s0 = .slice A n ca ∧ s1 = .slice B m cb ∧ Hid (la.length = n) ∧ Hid (lb.length = m) ∧ n ≤ ca ∧ m ≤ cb ∧ Hid (Vec w A la) ∧ Hid (Vec w B lb) ∧
    OwnC w W s5 lo ∧ Ext w W ∧ Hid (lo ++ mergeOf la lb = L) ∧ lo.length + n + m ≤ N ∧ n + m ≤ kx

/-- two variables hold the two first clocks -/
def TwoC (W0 : World) (x y x' y' : Int) (p q : Value) (W : World) : Prop :=
  ∃ g h : Nat, p = .pointer (some ⟨g, 0, none⟩) ∧ q = .pointer (some ⟨h, 0, none⟩) ∧ W.cell? ⟨g, 0, none⟩ = some (Vu x) ∧ W.cell? ⟨g, 1, none⟩ = some (Vu y) ∧ W.cell? ⟨h, 0, none⟩ = some (Vu x') ∧ W.cell? ⟨h, 1, none⟩ = some (Vu y') ∧ Ext W0 W

set_option maxHeartbeats 4000000 in
theorem merge_any (A B : Option Addr) (n m cap cap' : Nat) (l r : List (Int × Int)) (w : World) (hv : Vec w A l) (hu : Vec w B r) (hn : l.length = n) (hm : r.length = m) (hnc : n ≤ cap) (hmc : m ≤ cap') (hb : n + m ≤ 900) :
    Calls Try.prog 11 #[.slice A n cap, .slice B m cap'] w (RetVec w (mergeOf l r)) := by
  obtain ⟨L, hL⟩ : ∃ L, mergeOf l r = L := ⟨_, rfl⟩
  rw [hL]
  replace hL := Lib.hid hL
  replace hv := Lib.hid hv
  replace hu := Lib.hid hu
  replace hn := Lib.hid hn
  replace hm := Lib.hid hm
  have hmk := roomN_run (n + m) (by omega) ((n : Int) + (m : Int)) (by omega)
  go_enter Try.func11, Try.ntmps11
  go_wp2
  go_loopg [0, 1, 5] (n + m) (MrgKeep w (n + m) L)
  case atStart => exact ⟨l, r, [], A, B, n, m, cap, cap', rfl, rfl, hn, hm, hnc, hmc, hv, hu, roomN_own (Ext.refl w) _ (by omega), (Ext.refl w).alloc _, Lib.hid (by rw [List.nil_append]; exact hL.out), by simp, Nat.le_refl _⟩
  case round =>
    clear hL hv hu hmk
    obtain ⟨la, lb, lo, A, B, n1, m1, ca, cb, rfl, rfl, hn1, hm1, hca, hcb, hva, hvb, ho, hx, hrel, hN, hkx⟩ := hrel
    by_cases h0 : 0 < n1
    · by_cases h1 : 0 < m1
      · obtain ⟨b, o, x, y, rfl, hp, d0, d1⟩ := hva.out.at (k := 0) (by rw [hn1.out]; exact h0)
        obtain ⟨b', o', x', y', rfl, hp', d0', d1'⟩ := hvb.out.at (k := 0) (by rw [hm1.out]; exact h1)
        simp only [Nat.zero_mul, Nat.add_zero] at d0 d1 d0' d1'
        have c0 := hx.keep d0
        have c1 := hx.keep d1
        have c0' := hx.keep d0'
        have c1' := hx.keep d1'
        go_wp2_with fail
        go_cut [6, 7] (TwoC wr x y x' y')
        case first =>
          have b1 := World.block_lt_of_cell? wr _ c0
          have b2 := World.block_lt_of_cell? wr _ c0'
          simp only at b1 b2
          go_region
          all_goals
            go_wp2_with fail
            go_meet
            exact ⟨_, _, rfl, rfl, by simp [go_sem], by simp [go_sem], by simp [go_sem], by simp [go_sem], (((Ext.refl _).alloc _).alloc _).drew⟩
        case rest =>
          obtain ⟨g, h, rfl, rfl, g0, g1, i0, i1, x1⟩ := hcut
          replace ho := ho.ext x1
          replace hx := hx.trans x1
          clear c0 c1 c0' c1' d0 d1 d0' d1' x1
          have ea : la = (x, y) :: la.drop 1 := by
            obtain ⟨hk, e⟩ := List.getElem?_eq_some_iff.1 hp
            have := List.drop_eq_getElem_cons hk
            rw [e, List.drop_zero] at this
            exact this
          have eb : lb = (x', y') :: lb.drop 1 := by
            obtain ⟨hk, e⟩ := List.getElem?_eq_some_iff.1 hp'
            have := List.drop_eq_getElem_cons hk
            rw [e, List.drop_zero] at this
            exact this
          replace ea := Lib.hid ea
          replace eb := Lib.hid eb
          clear hp hp'
          have hfa := fromN (some ⟨b, o, none⟩) n1 ca 1 (by omega) 1 rfl
          have hfb := fromN (some ⟨b', o', none⟩) m1 cb 1 (by omega) 1 rfl
          have hva' := Lib.hid (hva.out.cut hn1.out hca (show 1 ≤ n1 by omega))
          have hvb' := Lib.hid (hvb.out.cut hm1.out hcb (show 1 ≤ m1 by omega))
          have hna' := Lib.hid (show (la.drop 1).length = n1 - 1 by rw [List.length_drop, hn1.out])
          have hnb' := Lib.hid (show (lb.drop 1).length = m1 - 1 by rw [List.length_drop, hm1.out])
          rcases Int.lt_trichotomy x x' with hxx | hxx | hxx
          · have hd := Lib.hid (show lo ++ [(x, y)] ++ mergeOf (la.drop 1) lb = L by
              rw [← hrel.out]
              conv => rhs; rw [ea.out, eb.out, merge_lt _ _ hxx, ← eb.out]
              simp)
            go_wp2_with (first
              | (at_builtin
                 refine wpList_append_C (w0 := w) rfl (.tmp 33) (.tmp 35) rfl _ lo rfl (World.ownsRow.alloc ho _) (hx.alloc _) _ 1 1 [(x, y)] rfl rfl (Vec.new wc x y) (by simp only [List.length_cons, List.length_nil]; omega) ?_
                 intro v2 w2 o2 x2))
            go_roundg (n1 - 1 + m1)
            case measure => omega
            case rel => exact ⟨la.drop 1, lb, lo ++ [(x, y)], _, _, n1 - 1, m1, ca - 1, cb, rfl, rfl, hna', hm1, by omega, hcb, hva', hvb, o2, x2, hd, by simp only [List.length_append, List.length_cons, List.length_nil]; omega, Nat.le_refl _⟩
          · subst hxx
            have hd := Lib.hid (show ∀ z : Int, z = max y y' → Hid (lo ++ [(x, z)] ++ mergeOf (la.drop 1) (lb.drop 1) = L) from fun z hz => Lib.hid (by
              subst hz
              rw [← hrel.out]
              conv => rhs; rw [ea.out, eb.out, merge_eq (p := (x, y)) (q := (x, y')) _ _ rfl]
              simp))
            go_wp2_with (first
              | (at_builtin
                 refine wpList_append_C (w0 := w) rfl (.tmp 50) (.tmp 59) rfl _ lo rfl (World.ownsRow.alloc ho _) (hx.alloc _) _ 1 1 [(x, _)] rfl rfl (Vec.new wc x _) (by simp only [List.length_cons, List.length_nil]; omega) ?_
                 intro v2 w2 o2 x2))
            all_goals
              go_quiet (fail)
              go_wp2
              go_roundg (n1 - 1 + (m1 - 1))
              case measure => omega
              case rel => exact ⟨la.drop 1, lb.drop 1, _, _, _, n1 - 1, m1 - 1, ca - 1, cb - 1, rfl, rfl, hna', hnb', by omega, by omega, hva', hvb', OwnC.ext o2 ((Ext.refl _).drewN _), x2.drewN _, hd.out _ (by omega), by simp only [List.length_append, List.length_cons, List.length_nil]; omega, Nat.le_refl _⟩
          · have hd := Lib.hid (show lo ++ [(x', y')] ++ mergeOf la (lb.drop 1) = L by
              rw [← hrel.out]
              conv => rhs; rw [ea.out, eb.out, merge_gt _ _ hxx, ← ea.out]
              simp)
            have hxx' : decide (x < x') = false := by simp; omega
            go_wp2_with (first
              | (at_builtin
                 refine wpList_append_C (w0 := w) rfl (.tmp 44) (.tmp 46) rfl _ lo rfl (World.ownsRow.alloc ho _) (hx.alloc _) _ 1 1 [(x', y')] rfl rfl (Vec.new wc x' y') (by simp only [List.length_cons, List.length_nil]; omega) ?_
                 intro v2 w2 o2 x2))
            go_roundg (n1 + (m1 - 1))
            case measure => omega
            case rel => exact ⟨la, lb.drop 1, lo ++ [(x', y')], _, _, n1, m1 - 1, ca, cb - 1, rfl, rfl, hn1, hnb', hca, by omega, hva, hvb', o2, x2, hd, by simp only [List.length_append, List.length_cons, List.length_nil]; omega, Nat.le_refl _⟩
      · have em : lb = [] := List.eq_nil_of_length_eq_zero (by rw [hm1.out]; omega)
        subst em
        obtain rfl : m1 = 0 := by omega
        have hd := Lib.hid (show lo ++ la ++ [] = L by rw [← hrel.out, merge_end, List.append_nil])
        go_wp2_with (first
          | (at_builtin
             refine wpList_append_C (w0 := w) rfl (.tmp 65) (.tmp 66) rfl _ lo rfl ho hx A n1 ca la rfl hn1.out (hva.out.ext hx) (by rw [hn1.out]; omega) ?_
             intro v2 w2 o2 x2)
          | (at_builtin
             refine wpList_append_C (w0 := w) rfl (.tmp 68) (.tmp 69) rfl v2 (lo ++ la) rfl o2 x2 B 0 cb [] rfl rfl (Vec.nil _ _) (by rw [List.length_append, hn1.out]; simp; omega) ?_
             intro v3 w3 o3 x3))
        go_ret
        obtain ⟨A4, c4, e4, h4⟩ := Vec.own o3
        subst e4
        exact ⟨A4, _, c4, rfl, by rw [← hd.out], by rw [← hd.out]; exact h4, x3⟩
    · have em : la = [] := List.eq_nil_of_length_eq_zero (by rw [hn1.out]; omega)
      subst em
      obtain rfl : n1 = 0 := by omega
      have hd := Lib.hid (show lo ++ [] ++ lb = L by rw [← hrel.out, merge_nil, List.append_nil])
      go_wp2_with (first
        | (at_builtin
           refine wpList_append_C (w0 := w) rfl (.tmp 65) (.tmp 66) rfl _ lo rfl ho hx A 0 ca [] rfl rfl (Vec.nil _ _) (by simp; omega) ?_
           intro v2 w2 o2 x2)
        | (at_builtin
           refine wpList_append_C (w0 := w) rfl (.tmp 68) (.tmp 69) rfl v2 (lo ++ []) rfl o2 x2 B m1 cb lb rfl hm1.out (hvb.out.ext x2) (by rw [List.length_append, hm1.out]; simp; omega) ?_
           intro v3 w3 o3 x3))
      go_ret
      obtain ⟨A4, c4, e4, h4⟩ := Vec.own o3
      subst e4
      exact ⟨A4, _, c4, rfl, by rw [← hd.out], by rw [← hd.out]; exact h4, x3⟩

end Go.Proofs.Ytbniojfggiioaaa
