/-
  Contract of ranges.Join; no claim stands here.
-/
import Derived.Test.YtiacfkipkbjmjaaRngOf
import Derived.Deep.DeepCutAuto
import Derived.BigRegion
namespace Go.Proofs.Ytiacfkipkbjmjaa
open Go.ChangeShapes Go.WideShapes Go.ChangeAt Go.RowKit Go.Sort
set_option linter.unusedVariables false
attribute [local go_sem] World.cell?_alloc_some

/-- what the loop of Join keeps -/
def JoinKeep (w : World) (N : Nat) (L : List (Int × Int × Int)) (kx : Nat) (s0 s1 s5 : Value) (W : World) : Prop :=
  ∃ (la lb lo : List (Int × Int × Int)) (A B : Option Addr) (n m ca cb : Nat), s0 = .slice A n ca ∧ s1 = .slice B m cb ∧ Hid (la.length = n) ∧ Hid (lb.length = m) ∧ n ≤ ca ∧ m ≤ cb ∧ Hid (SpS w A la) ∧ Hid (SpS w B lb) ∧
    Hid (OwnS w W s5 lo) ∧ Ext w W ∧ Hid (addAll lo (mixS la lb) = L) ∧ lo.length + n + m ≤ N ∧ n + m ≤ kx

/-- from whom the next one is taken -/
def takesA : List (Int × Int × Int) → List (Int × Int × Int) → Bool
  | _, [] => true
  | [], _ :: _ => false
  | p :: _, q :: _ => ltB p q
theorem takes_a {p : Int × Int × Int} {a b : List (Int × Int × Int)} (h : takesA (p :: a) b = true) : mixS (p :: a) b = p :: mixS a b := by
  cases b with
  | nil => rw [mix_end, mix_end]
  | cons q b => exact mix_lt a b h
theorem takes_b {q : Int × Int × Int} {a b : List (Int × Int × Int)} (h : takesA a (q :: b) = false) : mixS a (q :: b) = q :: mixS a b := by
  cases a with
  | nil => rw [mix_nil, mix_nil]
  | cons p a => exact mix_ge a b h
theorem head_drop {l : List (Int × Int × Int)} {p : Int × Int × Int} (h : l[0]? = some p) : l = p :: l.drop 1 := by
  obtain ⟨hk, e⟩ := List.getElem?_eq_some_iff.1 h
  have := List.drop_eq_getElem_cons hk
  rw [e, List.drop_zero] at this
  exact this

set_option maxHeartbeats 4000000 in
theorem join_any (A B : Option Addr) (n m cap cap' : Nat) (l r : List (Int × Int × Int)) (w : World) (hv : SpS w A l) (hu : SpS w B r) (hn : l.length = n) (hm : r.length = m) (hnc : n ≤ cap) (hmc : m ≤ cap') (hl : maySp zS l = true) (hr : maySp zS r = true) (hb : n + m ≤ 900) :
    Calls Try.prog 9 #[.slice A n cap, .slice B m cap'] w (RetS w (setOfS (l ++ r))) := by
  obtain ⟨L, hL⟩ : ∃ L, addAll [] (mixS l r) = L := ⟨_, rfl⟩
  rw [← join_is hl hr, hL]
  replace hL := Lib.hid hL
  replace hv := Lib.hid hv
  replace hu := Lib.hid hu
  replace hn := Lib.hid hn
  replace hm := Lib.hid hm
  clear hl hr
  have hmk := roomS_run (n + m) (by omega) ((n : Int) + (m : Int)) (by omega)
  go_enter Try.func9, Try.ntmps9
  go_wp2
  go_loopg [0, 1, 5] (n + m) (JoinKeep w (n + m) L)
  case atStart => exact ⟨l, r, [], A, B, n, m, cap, cap', rfl, rfl, hn, hm, hnc, hmc, hv, hu, Lib.hid (OwnS.room (Ext.refl w) _ (by omega)), (Ext.refl w).alloc _, hL, by simp, Nat.le_refl _⟩
  case round =>
    clear hL hv hu hmk
    obtain ⟨la, lb, lo, A, B, n1, m1, ca, cb, rfl, rfl, hn1, hm1, hca, hcb, hva, hvb, ho, hx, hrel, hN, hkx⟩ := hrel
    by_cases h0 : 0 < n1 + m1
    · have h0' : decide ((0 : Int) < (n1 : Int) + (m1 : Int)) = true := by simp; omega
      obtain ⟨t, ht⟩ : ∃ t, takesA la lb = t := ⟨_, rfl⟩
      replace ht := Lib.hid ht
      go_wp2_with fail
      go_cut [35] (fun s wx => s = .bool t ∧ Ext wr wx)
      case first =>
        by_cases hm0 : m1 = 0
        · subst hm0
          obtain rfl : lb = [] := List.eq_nil_of_length_eq_zero hm1.out
          obtain rfl : true = t := by
            have h := ht.out
            unfold takesA at h
            exact h
          go_quiet (fail)
          go_wp2_with fail
          go_meet
          exact ⟨rfl, (Ext.refl _).drewN _⟩
        · have hm0' : ((m1 : Int) == 0) = false := by simpa using hm0
          obtain ⟨b', o', x', y', z', rfl, hp', d0', d1', d2'⟩ := hvb.out.at (k := 0) (by rw [hm1.out]; omega)
          by_cases hn0 : n1 = 0
          · subst hn0
            obtain rfl : la = [] := List.eq_nil_of_length_eq_zero hn1.out
            obtain rfl : false = t := by
              have h := ht.out
              rw [head_drop hp'] at h
              exact h
            go_quiet (fail)
            go_wp2_with fail
            go_meet
            exact ⟨rfl, (Ext.refl _).drewN _⟩
          · obtain ⟨b, o, x, y, z, rfl, hp, d0, d1, d2⟩ := hva.out.at (k := 0) (by rw [hn1.out]; omega)
            simp only [Nat.zero_mul, Nat.add_zero] at d0 d1 d2 d0' d1' d2'
            have hn0' : decide (0 < n1) = true := by simp; omega
            have hn1' : (0 : Int) < (n1 : Int) := by omega
            have hm1' : (0 : Int) < (m1 : Int) := by omega
            have hcmp := Lib.hid (show decide (cmpS (x, y, z) (x', y', z') < 0) = t by
              rw [cmpS_lt]
              have h := ht.out
              rw [head_drop hp, head_drop hp'] at h
              exact h)
            have hcall := Lib.hid (fun W => compareS_any x y z x' y' z' W)
            generalize cmpS (x, y, z) (x', y', z') = q at *
            have hcmp' := hcmp.out
            have r0 := cell_regrown (hx.keep d0)
            have r1 := cell_regrown (hx.keep d1)
            have r2 := cell_regrown (hx.keep d2)
            have s0 := cell_regrown (hx.keep d0')
            have s1 := cell_regrown (hx.keep d1')
            have s2 := cell_regrown (hx.keep d2')
            clear hp hp'
            refine wp_region_quiet_below (by kernel_rfl) (by kernel_rfl) ?_
            repeat go_big_quiet_step ((with_reducible exact Calls.in_regrown (hcall.out _)))
            refine wpQuiet_nil ?_
            intro _ hw'
            obtain ⟨⟨dq, osq⟩, hw''⟩ := hw'
            subst hw''
            go_wp2_with fail
            go_meet
            exact ⟨rfl, Ext.regrown _ _ _⟩
      case rest =>
        obtain ⟨rfl, x1⟩ := hcut
        replace ho := Lib.hid (ho.out.ext x1)
        replace hx := hx.trans x1
        clear x1
        cases t with
        | true =>
          have hn0 : 0 < n1 := by
            rcases Nat.eq_zero_or_pos n1 with h | h
            · have ea : la = [] := List.eq_nil_of_length_eq_zero (by rw [hn1.out]; exact h)
              have h1 := ht.out
              rw [ea] at h1
              have h2 : 0 < lb.length := by rw [hm1.out]; omega
              cases lb with
              | nil => simp at h2
              | cons q lb => cases h1
            · exact h
          obtain ⟨b, o, x, y, z, rfl, hp, d0, d1, d2⟩ := hva.out.at (k := 0) (by rw [hn1.out]; exact hn0)
          simp only [Nat.zero_mul, Nat.add_zero] at d0 d1 d2
          have hn1' : (0 : Int) < (n1 : Int) := by omega
          have hd := Lib.hid (show addAll (addOf lo (x, y, z)) (mixS (la.drop 1) lb) = L by
            rw [← hrel.out]
            conv => rhs; rw [head_drop hp, takes_a (by have h := ht.out; rw [head_drop hp] at h; exact h), addAll_cons])
          have hfa := fromSN (some ⟨b, o, none⟩) n1 ca 1 (by omega) 1 rfl
          have hva' := Lib.hid (hva.out.cut hn1.out hca (show 1 ≤ n1 by omega))
          have hna' := Lib.hid (show (la.drop 1).length = n1 - 1 by rw [List.length_drop, hn1.out])
          have c0 : wc.drew.cell? ⟨b, o, none⟩ = some (Vu x) := hx.keep d0
          have c1 : wc.drew.cell? ⟨b, o + 1, none⟩ = some (Vu y) := hx.keep d1
          have c2 : wc.drew.cell? ⟨b, o + 2, none⟩ = some (Vu z) := hx.keep d2
          have hadd := Lib.hid (add_any w wc.drew _ lo x y z (ho.out.ext ((Ext.refl _).drew)) hx.drew (by omega))
          have hl3 := add_len lo (x, y, z)
          clear hp hrel
          generalize addOf lo (x, y, z) = lo3 at *
          go_wp2_with fail
          go_region_with (go_at_call 20; refine hadd.out.mono ?_; rintro e w3 ⟨v3, rfl, o3, x3⟩)
          all_goals
            replace o3 := Lib.hid o3
            go_wp2
            go_roundg (n1 - 1 + m1)
            case measure => omega
            case rel => exact ⟨la.drop 1, lb, lo3, _, _, n1 - 1, m1, ca - 1, cb, rfl, rfl, hna', hm1, by omega, hcb, hva', hvb, o3, x3, hd, by omega, Nat.le_refl _⟩
        | false =>
          have hm0 : 0 < m1 := by
            rcases Nat.eq_zero_or_pos m1 with h | h
            · have eb : lb = [] := List.eq_nil_of_length_eq_zero (by rw [hm1.out]; exact h)
              have h1 := ht.out
              rw [eb] at h1
              unfold takesA at h1
              cases h1
            · exact h
          obtain ⟨b, o, x, y, z, rfl, hp, d0, d1, d2⟩ := hvb.out.at (k := 0) (by rw [hm1.out]; exact hm0)
          simp only [Nat.zero_mul, Nat.add_zero] at d0 d1 d2
          have hm1' : (0 : Int) < (m1 : Int) := by omega
          have hd := Lib.hid (show addAll (addOf lo (x, y, z)) (mixS la (lb.drop 1)) = L by
            rw [← hrel.out]
            conv => rhs; rw [head_drop hp, takes_b (by have h := ht.out; rw [head_drop hp] at h; exact h), addAll_cons])
          have hfb := fromSN (some ⟨b, o, none⟩) m1 cb 1 (by omega) 1 rfl
          have hvb' := Lib.hid (hvb.out.cut hm1.out hcb (show 1 ≤ m1 by omega))
          have hnb' := Lib.hid (show (lb.drop 1).length = m1 - 1 by rw [List.length_drop, hm1.out])
          have c0 : wc.drew.cell? ⟨b, o, none⟩ = some (Vu x) := hx.keep d0
          have c1 : wc.drew.cell? ⟨b, o + 1, none⟩ = some (Vu y) := hx.keep d1
          have c2 : wc.drew.cell? ⟨b, o + 2, none⟩ = some (Vu z) := hx.keep d2
          have hadd := Lib.hid (add_any w wc.drew _ lo x y z (ho.out.ext ((Ext.refl _).drew)) hx.drew (by omega))
          have hl3 := add_len lo (x, y, z)
          clear hp hrel
          generalize addOf lo (x, y, z) = lo3 at *
          go_wp2_with fail
          go_region_with (go_at_call 20; refine hadd.out.mono ?_; rintro e w3 ⟨v3, rfl, o3, x3⟩)
          all_goals
            replace o3 := Lib.hid o3
            go_wp2
            go_roundg (n1 + (m1 - 1))
            case measure => omega
            case rel => exact ⟨la, lb.drop 1, lo3, _, _, n1, m1 - 1, ca, cb - 1, rfl, rfl, hn1, hnb', hca, by omega, hva, hvb', o3, x3, hd, by omega, Nat.le_refl _⟩
    · have ea : la = [] := List.eq_nil_of_length_eq_zero (by rw [hn1.out]; omega)
      have eb : lb = [] := List.eq_nil_of_length_eq_zero (by rw [hm1.out]; omega)
      subst ea
      subst eb
      obtain rfl : n1 = 0 := by omega
      obtain rfl : m1 = 0 := by omega
      have hz := Lib.hid (show lo = L by rw [← hrel.out, mix_nil]; rfl)
      go_wp2
      go_ret
      obtain ⟨A4, c4, e4, h4⟩ := SpS.own ho.out
      subst e4
      exact ⟨A4, _, c4, rfl, by rw [← hz.out], OwnS.cap ho.out, by rw [← hz.out]; exact h4, hx⟩

end Go.Proofs.Ytiacfkipkbjmjaa
