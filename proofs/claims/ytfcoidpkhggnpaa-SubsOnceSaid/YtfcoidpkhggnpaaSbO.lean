/-
  SubsOnce's walk; no claim stands here.
-/
import Derived.Test.YtfcoidpkhggnpaaSbK
namespace Go.Proofs.Ytfcoidpkhggnpaa
open Go.ChangeShapes Go.WideShapes Go.ChangeAt Go.RowKit Go.Sort
set_option linter.unusedVariables false
attribute [local go_sem] World.cell?_alloc_some

theorem once_ok (L : List Ms) {n k j : Nat} (hn : L.length = n) (hj : j < n) : okP k (L.take (min j k)) (decide (k < j)) = decide (j < k) := by
  unfold okP
  rw [List.length_take, hn]
  rw [Bool.eq_iff_iff]
  simp only [Bool.and_eq_true, Bool.not_eq_true', decide_eq_true_eq, decide_eq_false_iff_not]
  constructor
  · rintro ⟨h1, h2⟩
    have := Nat.min_le_left j k
    rcases Nat.lt_or_ge j k with h | h
    · exact h
    · rw [Nat.min_eq_right h] at h2; omega
  · intro h
    rw [Nat.min_eq_left (by omega)]
    exact ⟨by omega, by omega⟩
theorem once_next (L : List Ms) {n k j : Nat} {x : Ms} (hn : L.length = n) (hx : L[j]? = some x) : nxL k (L.take (min j k)) (decide (k < j)) x = L.take (min (j + 1) k) ∧ nxG k (L.take (min j k)) (decide (k < j)) = decide (k < j + 1) := by
  obtain ⟨hj, e⟩ := List.getElem?_eq_some_iff.1 hx
  have h := once_ok L (k := k) hn (by omega : j < n)
  unfold nxL nxG
  rw [h]
  by_cases hjk : j < k
  · rw [decide_eq_true hjk, if_pos rfl, Nat.min_eq_left (by omega), Nat.min_eq_left (by omega), List.take_succ_eq_append_getElem hj, e]
    exact ⟨rfl, by rw [decide_eq_false (by omega)]; rfl⟩
  · rw [decide_eq_false hjk, if_neg (by simp), Nat.min_eq_right (by omega), Nat.min_eq_right (by omega)]
    exact ⟨rfl, by rw [decide_eq_true (by omega)]; rfl⟩

set_option maxRecDepth 100000 in
set_option maxHeartbeats 16000000 in
theorem subsOnce_walk (K : SbK) (room : Int) (A : Option Addr) (n cap : Nat) (L : List Ms) (z : Int) (w : World) (hv : MsS w A L) (hsm : ∀ y ∈ L, SmM y) (hn : L.length = n) (hcap : n ≤ cap) (hn1 : n ≤ maxLen) :
    Calls Try.prog 4 #[Vi room, .slice A n cap, Vi z] w fun e w' => e = .returned (.bool true) ∧ Ext w w' := by
  unfold maxLen at hn1
  have hz0 : errv 0 = .nilIface := by simp [errv]
  have hpk := Lib.hid (fun W : World => (show ((110 : Nat) : Int) = 110 from rfl) ▸ pick8_any room 110 W (by omega) (by omega))
  replace hv := Lib.hid hv
  replace hsm := Lib.hid hsm
  replace hn := Lib.hid hn
  go_enter Try.func4, Try.ntmps4
  go_wp2_with fail
  refine (up13_any K _).mono ?_
  rintro e w1 ⟨rfl, x1⟩
  by_cases h100 : 100 < n
  · clear hpk hz0
    go_wp2
    go_ret
    exact ⟨rfl, x1⟩
  go_wp2_with fail
  refine (hpk.out _).mono ?_
  rintro e _ ⟨⟨r, hr, rfl⟩, rfl⟩
  have hw : IntKind.i64.wrap (1 + (r : Int)) = ((r + 1 : Nat) : Int) := by rw [IntWalk.i64_in _ (by omega)]; omega
  obtain ⟨k, hk⟩ : ∃ k, r + 1 = k := ⟨_, rfl⟩
  rw [hk] at hw
  have hk1 : 1 ≤ k := by omega
  have hk2 : k ≤ 110 := by omega
  have hnew := Lib.hid (fun W => K.new (k : Int) W (by omega) (by omega))
  clear hpk hk
  go_wp2_with fail
  refine (hnew.out _).mono ?_
  rintro e w2 ⟨⟨h1, _⟩, x2⟩
  obtain ⟨ad, S1, rfl, q1, s1⟩ := h1 (by omega)
  rw [Int.toNat_natCast] at q1
  rw [hz0]
  replace x2 := x1.trans x2
  have s1' : AbQ w S1 := fun b hb => Nat.le_trans x1.size (s1 b hb)
  have hP0 := Lib.hid (show ∃ S, K.Q w2 (.pointer (some ad)) k (L.take (min 0 k)) (decide (k < 0)) S ∧ AbQ w S from ⟨S1, by rw [Nat.zero_min, List.take_zero, decide_eq_false (by omega)]; exact q1, s1'⟩)
  clear h1 hnew hz0 s1 q1 s1' x1 hw
  go_wp2_with fail
  go_loopw [11] (fun s W => ∃ j : Nat, j ≤ n ∧ s = Vi j ∧ Hid (∃ S, K.Q W (.pointer (some ad)) k (L.take (min j k)) (decide (k < j)) S ∧ AbQ w S) ∧ Ext w W) (fun s _ => n - (intOf s).toNat)
  case atStart => exact ⟨0, Nat.zero_le _, rfl, hP0, x2⟩
  case round =>
    clear hP0
    obtain ⟨j, hj, rfl, hP, hxw⟩ := hrel
    obtain ⟨S, hq, hab⟩ := hP.out
    by_cases hlt : j < n
    · obtain ⟨b, o, x, hA, hx, c⟩ := (hv.out.ext hxw).at (k := j) (by rw [hn.out]; exact hlt)
      obtain ⟨c0, c1, c2, c3, c4, c5⟩ := c
      have hi1 : (0 : Int) ≤ (j : Int) := by omega
      have hi2 : (j : Int) < (n : Int) := by omega
      have hok := once_ok L (k := k) hn.out hlt
      have hnx := once_next L (k := k) hn.out hx
      have hps := K.w.push x (hsm.out x (List.mem_of_getElem? hx)) hq (by rw [List.length_take]; have := Nat.min_le_left (min j k) L.length; have := Nat.min_le_right j k; omega) (by omega)
      rw [hok, hnx.1, hnx.2] at hps
      replace hps := Lib.hid hps
      subst hA
      clear hx hok hnx hq hP
      have hxw' := Lib.hid hxw
      have hab' := Lib.hid hab
      clear hxw hab
      by_cases hjk : j < k
      all_goals
        simp only [hjk, decide_true, decide_false] at hps
        go_wp2_with fail
        refine hps.out.mono ?_
        rintro e w3 ⟨rfl, S2, q2, t2, b2⟩
        obtain ⟨s2, x3⟩ := hab'.out.next hxw'.out t2 b2
        have hP2 := Lib.hid (show ∃ S, K.Q w3 (.pointer (some ad)) k (L.take (min (j + 1) k)) (decide (k < j + 1)) S ∧ AbQ w S from ⟨S2, q2, s2⟩)
        clear q2 t2 b2 s2
        go_wp2
        go_roundw
        case rel => exact ⟨j + 1, by omega, by go_num, hP2, x3⟩
        case measure => simp [intOf]; omega
    · obtain rfl : j = n := by omega
      clear hP
      rcases Nat.lt_or_ge k j with hnk | hnk
      · rw [decide_eq_true hnk, Nat.min_eq_right (by omega)] at hq
        have hlk := Lib.hid (show (L.take k).length = k by rw [List.length_take, hn.out]; omega)
        have ho : outQ (L.take k) true z [120] = (L.take k ++ [(⟨z, true, [120], 0, 0, []⟩ : Ms)]) := by unfold outQ; simp
        have hol := Lib.hid (show (L.take k ++ [(⟨z, true, [120], 0, 0, []⟩ : Ms)]).length = k + 1 by rw [List.length_append, hlk.out]; rfl)
        have hdr := K.w.drain z [120] (by decide) hq (by rw [hlk.out]; omega)
        rw [ho, hol.out] at hdr
        replace hdr := Lib.hid hdr
        have hup := fun W : World => uptoM A j cap k (by omega) ((k : Nat) : Int) rfl W
        have hxw' := Lib.hid hxw
        have hab' := Lib.hid hab
        clear hxw hab hq ho
        go_wp2_with fail
        refine hdr.out.mono ?_
        rintro e w3 ⟨B, zc, S2, rfl, hB, _, q2, t2, b2⟩
        obtain ⟨s2, x3⟩ := hab'.out.next hxw'.out t2 b2
        have hsrc := Lib.hid ((hv.out.ext x3).take k)
        replace hB := Lib.hid hB
        replace q2 := Lib.hid q2
        replace s2 := Lib.hid s2
        replace x3 := Lib.hid x3
        clear t2 b2 hdr
        go_wp2_with (first
          | (at_builtin
             refine wpList_append_M (w0 := w3) rfl (.tmp 52) (.tmp 58) rfl _ [] rfl (OwnM.zero (heap_alloc_new w3 _) (Nat.le_refl _)) ((Ext.refl w3).alloc _) _ k cap (L.take k) rfl hlk.out (hsrc.out.ext ((Ext.refl w3).alloc _)) (by rw [hlk.out, List.length_nil]; omega) ?_
             intro v6 w6 o6 x6 g6 e6)
          | (at_builtin
             refine wpList_append_M (w0 := w3) rfl (.tmp 64) (.tmp 67) rfl _ ([] ++ L.take k) rfl (o6.ext ((Ext.refl w6).alloc _)) (x6.alloc _) _ 1 1 [⟨z, true, [120], 0, 0, []⟩] rfl rfl (MsS.new w6 ⟨z, true, [120], 0, 0, []⟩) (by rw [List.nil_append, hlk.out]; simp only [List.length_cons, List.length_nil]; omega) ?_
             intro v7 w7 o7 x7 g7 e7
             obtain ⟨C, zd, hv7, _, hC⟩ := o7.open
             rw [List.nil_append, hol.out] at hv7
             subst hv7)
          | fail)
        rw [List.nil_append] at hC
        refine (sameM_any B C (k + 1) zc zd _ w7 (hB.out.ext x7) hC hol.out (by omega)).mono ?_
        rintro e w8 ⟨rfl, x8⟩
        have x8' := x7.trans x8
        replace q2 := K.w.ext q2.out x8'
        replace x8' := x3.out.trans x8'
        clear hC o7 x7 g7 e7 x8 hB o6 x6 g6 e6
        go_wp2_with fail
        refine (K.len q2 (by simp)).mono ?_
        rintro e w9 ⟨rfl, x9⟩
        rw [show ([] : List Ms).length = 0 from rfl]
        replace q2 := K.w.ext q2 x9
        replace x9 := x8'.trans x9
        clear x8'
        go_wp2_with fail
        refine (K.w.drain z [120] (by decide) q2 (by simp)).mono ?_
        rintro e w10 ⟨D, ze, S3, rfl, _, _, q3, t3, b3⟩
        obtain ⟨s3, x10⟩ := s2.out.next x9 t3 b3
        rw [show outQ [] false z [120] = [] from rfl, show ([] : List Ms).length = 0 from rfl]
        clear q2 x9 t3 b3
        go_wp2_with fail
        refine (K.w.push ⟨z, false, [], 0, 0, []⟩ ⟨Nat.zero_le _, Nat.zero_le _⟩ q3 (by simp) (by omega)).mono ?_
        rintro e w11 ⟨rfl, S4, q4, t4, b4⟩
        obtain ⟨s4, x11⟩ := s3.next x10 t4 b4
        have hok : okP k [] false = true := by unfold okP; rw [decide_eq_true (by simp; omega)]; rfl
        have hl4 : nxL k [] false ⟨z, false, [], 0, 0, []⟩ = [⟨z, false, [], 0, 0, []⟩] := by unfold nxL; rw [hok]; rfl
        have hg4 : nxG k [] false = false := by unfold nxG; rw [hok]; rfl
        rw [hl4, hg4] at q4
        rw [hok]
        clear hl4 hg4 hok q3 x10 t4 b4 s3
        go_wp2_with fail
        refine (K.w.drain 0 [] (by decide) q4 (by simp)).mono ?_
        rintro e w12 ⟨E, zf, S5, rfl, hE, _, _, t5, b5⟩
        obtain ⟨_, x12⟩ := s4.next x11 t5 b5
        rw [show outQ [(⟨z, false, [], 0, 0, []⟩ : Ms)] false 0 [] = [⟨z, false, [], 0, 0, []⟩] from rfl] at hE ⊢
        rw [show [(⟨z, false, [], 0, 0, []⟩ : Ms)].length = 1 from rfl]
        clear q4 x11 t5 b5 s4
        go_wp2_with fail
        refine (sameM_any E _ 1 zf 1 [⟨z, false, [], 0, 0, []⟩] _ (hE.ext ((Ext.refl w12).alloc _)) (MsS.new w12 ⟨z, false, [], 0, 0, []⟩) rfl (by omega)).mono ?_
        rintro e w13 ⟨rfl, x13⟩
        go_wp2
        go_ret
        exact ⟨rfl, (x12.alloc _).trans x13⟩
      · rw [decide_eq_false (by omega), Nat.min_eq_left hnk, List.take_of_length_le (by rw [hn.out]; omega)] at hq
        have hlk := Lib.hid (show L.length = j by exact hn.out)
        have ho : outQ L false z [120] = L := by unfold outQ; simp
        have hol := Lib.hid (show L.length = j by exact hn.out)
        have hdr := K.w.drain z [120] (by decide) hq (by rw [hlk.out]; omega)
        rw [ho, hol.out] at hdr
        replace hdr := Lib.hid hdr
        have hup := fun W : World => uptoM A j cap j (by omega) ((j : Nat) : Int) rfl W
        have hxw' := Lib.hid hxw
        have hab' := Lib.hid hab
        clear hxw hab hq ho
        go_wp2_with fail
        refine hdr.out.mono ?_
        rintro e w3 ⟨B, zc, S2, rfl, hB, _, q2, t2, b2⟩
        obtain ⟨s2, x3⟩ := hab'.out.next hxw'.out t2 b2
        have hsrc := Lib.hid (hv.out.ext x3)
        replace hB := Lib.hid hB
        replace q2 := Lib.hid q2
        replace s2 := Lib.hid s2
        replace x3 := Lib.hid x3
        clear t2 b2 hdr
        go_wp2_with (first
          | (at_builtin
             refine wpList_append_M (w0 := w3) rfl (.tmp 52) (.tmp 58) rfl _ [] rfl (OwnM.zero (heap_alloc_new w3 _) (Nat.le_refl _)) ((Ext.refl w3).alloc _) _ j cap L rfl hlk.out (hsrc.out.ext ((Ext.refl w3).alloc _)) (by rw [hlk.out, List.length_nil]; omega) ?_
             intro v7 w7 o7 x7 g7 e7
             obtain ⟨C, zd, hv7, _, hC⟩ := o7.open
             rw [List.nil_append, hol.out] at hv7
             subst hv7)
          | fail)
        rw [List.nil_append] at hC
        refine (sameM_any B C (j) zc zd _ w7 (hB.out.ext x7) hC hol.out (by omega)).mono ?_
        rintro e w8 ⟨rfl, x8⟩
        have x8' := x7.trans x8
        replace q2 := K.w.ext q2.out x8'
        replace x8' := x3.out.trans x8'
        clear hC o7 x7 g7 e7 x8 hB
        go_wp2_with fail
        refine (K.len q2 (by simp)).mono ?_
        rintro e w9 ⟨rfl, x9⟩
        rw [show ([] : List Ms).length = 0 from rfl]
        replace q2 := K.w.ext q2 x9
        replace x9 := x8'.trans x9
        clear x8'
        go_wp2_with fail
        refine (K.w.drain z [120] (by decide) q2 (by simp)).mono ?_
        rintro e w10 ⟨D, ze, S3, rfl, _, _, q3, t3, b3⟩
        obtain ⟨s3, x10⟩ := s2.out.next x9 t3 b3
        rw [show outQ [] false z [120] = [] from rfl, show ([] : List Ms).length = 0 from rfl]
        clear q2 x9 t3 b3
        go_wp2_with fail
        refine (K.w.push ⟨z, false, [], 0, 0, []⟩ ⟨Nat.zero_le _, Nat.zero_le _⟩ q3 (by simp) (by omega)).mono ?_
        rintro e w11 ⟨rfl, S4, q4, t4, b4⟩
        obtain ⟨s4, x11⟩ := s3.next x10 t4 b4
        have hok : okP k [] false = true := by unfold okP; rw [decide_eq_true (by simp; omega)]; rfl
        have hl4 : nxL k [] false ⟨z, false, [], 0, 0, []⟩ = [⟨z, false, [], 0, 0, []⟩] := by unfold nxL; rw [hok]; rfl
        have hg4 : nxG k [] false = false := by unfold nxG; rw [hok]; rfl
        rw [hl4, hg4] at q4
        rw [hok]
        clear hl4 hg4 hok q3 x10 t4 b4 s3
        go_wp2_with fail
        refine (K.w.drain 0 [] (by decide) q4 (by simp)).mono ?_
        rintro e w12 ⟨E, zf, S5, rfl, hE, _, _, t5, b5⟩
        obtain ⟨_, x12⟩ := s4.next x11 t5 b5
        rw [show outQ [(⟨z, false, [], 0, 0, []⟩ : Ms)] false 0 [] = [⟨z, false, [], 0, 0, []⟩] from rfl] at hE ⊢
        rw [show [(⟨z, false, [], 0, 0, []⟩ : Ms)].length = 1 from rfl]
        clear q4 x11 t5 b5 s4
        go_wp2_with fail
        refine (sameM_any E _ 1 zf 1 [⟨z, false, [], 0, 0, []⟩] _ (hE.ext ((Ext.refl w12).alloc _)) (MsS.new w12 ⟨z, false, [], 0, 0, []⟩) rfl (by omega)).mono ?_
        rintro e w13 ⟨rfl, x13⟩
        go_wp2
        go_ret
        exact ⟨rfl, (x12.alloc _).trans x13⟩

end Go.Proofs.Ytfcoidpkhggnpaa
