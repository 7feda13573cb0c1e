/-
  RangesSame answers true for every two lists of spans and every Id, and leaves its arguments as they were; no condition.
-/
import Derived.Test.YtiacfkipkbjmjaaRngUp
import Derived.Test.YtiacfkipkbjmjaaIds
namespace Go.Proofs.Ytiacfkipkbjmjaa
open Go.ChangeShapes Go.WideShapes Go.ChangeAt Go.RowKit Go.Sort
set_option linter.unusedVariables false
attribute [local go_sem] World.cell?_alloc_some

def inOf (l : List (Int × Int × Int)) (c t : Int) : Bool := decide (c ≠ 0) && memS l c t
theorem inOf_good {l : List (Int × Int × Int)} (hw : wfS l) {c : Int} (hc : 0 ≤ c) (t : Int) : memS (setOfS l) c t = inOf l c t := by
  rw [setOf_mem, memS_good hw, inOf]
  congr 1
  rw [Bool.eq_iff_iff, decide_eq_true_eq, decide_eq_true_eq]
  omega
theorem inOf_both (l r : List (Int × Int × Int)) (c t : Int) : inOf (l ++ r) c t = (inOf l c t || inOf r c t) := by
  simp only [inOf, memS_append]
  cases decide (c ≠ 0) <;> simp
theorem inOf_drop {l : List (Int × Int × Int)} {k : Nat} {p : Int × Int × Int} (h : l[k]? = some p) (c t : Int) : inOf (l.drop k) c t = (inOf (l.drop (k + 1)) c t || (decide (c ≠ 0) && inS p c t)) := by
  simp only [inOf, memS_drop h]
  cases decide (c ≠ 0) <;> cases inS p c t <;> simp

/-- what the law's loop keeps -/
def TurnRel (w : World) (n : Nat) (l : List (Int × Int × Int)) (c t : Int) (s10 s11 s12 : Value) (W : World) : Prop :=
  ∃ (k : Nat) (lo : List (Int × Int × Int)) (z : Int), k ≤ n ∧ z = (k : Int) - 1 ∧ s12 = .int .i64 z ∧ s11 = .bool (inOf (l.drop k) c t) ∧ Hid (OwnS w W s10 lo) ∧ Ext w W ∧ Hid (lo = (l.drop k).reverse) ∧ lo.length + k = n

theorem reverse_drop {l : List (Int × Int × Int)} {k : Nat} {p : Int × Int × Int} (h : l[k]? = some p) : (l.drop (k + 1)).reverse ++ [p] = (l.drop k).reverse := by
  rw [drop_at h, List.reverse_cons]

set_option maxRecDepth 100000 in
set_option maxHeartbeats 4000000 in
theorem rsame_walk (A B : Option Addr) (n m ca cb : Nat) (l r : List (Int × Int × Int)) (c t : Int) (w : World) (hv : SpS w A l) (hu : SpS w B r) (hn : l.length = n) (hm : r.length = m) (hca : n ≤ ca) (hcb : m ≤ cb) (hwl : wfS l) (hwr : wfS r) (hn1 : n ≤ maxLen) (hm1 : m ≤ maxLen) (hc0 : 0 ≤ c) :
    Calls Try.prog 4 #[.slice A n ca, .slice B m cb, idv c t] w fun e w' => e = .returned (.bool true) ∧ Ext w w' := by
  unfold maxLen at hn1 hm1
  replace hv := Lib.hid hv
  replace hu := Lib.hid hu
  replace hn := Lib.hid hn
  replace hm := Lib.hid hm
  replace hwl := Lib.hid hwl
  replace hwr := Lib.hid hwr
  by_cases hbig : 60 < n
  · go_enter Try.func4, Try.ntmps4
    go_wp2_with fail
    refine (up3_any _).mono ?_
    rintro e w1 ⟨rfl, x1⟩
    go_wp2
    go_ret
    exact ⟨rfl, ((Ext.refl _).alloc _).trans x1⟩
  by_cases hbig2 : 60 < m
  · go_enter Try.func4, Try.ntmps4
    go_wp2_with fail
    refine (up3_any _).mono ?_
    rintro e w1 ⟨rfl, x1⟩
    go_wp2
    go_ret
    exact ⟨rfl, ((Ext.refl _).alloc _).trans x1⟩
  go_enter Try.func4, Try.ntmps4
  go_wp2_with fail
  refine (up3_any _).mono ?_
  rintro e w1 ⟨rfl, x1⟩
  have q0 := x1.keep (p := ⟨w.heap.size, 0, none⟩) (v := Vu c) (by simp [go_sem])
  have q1 := x1.keep (p := ⟨w.heap.size, 1, none⟩) (v := Vu t) (by simp [go_sem])
  replace x1 := ((Ext.refl w).alloc _).trans x1
  obtain ⟨pt, hpt⟩ : ∃ pt, w.heap.size = pt := ⟨_, rfl⟩
  rw [hpt] at q0 q1 ⊢
  clear hpt
  go_wp2_with fail
  refine (of_any A n ca l _ (hv.out.ext x1) hn.out hwl.out (by omega)).mono ?_
  rintro e w2 ⟨A2, n2, c2, rfl, hn2, hc2, hv2, x2⟩
  replace q0 := x2.keep q0
  replace q1 := x2.keep q1
  replace x1 := x1.trans x2
  replace hn2 := Lib.hid hn2
  replace hv2 := Lib.hid hv2
  clear x2
  go_wp2_with fail
  refine (of_any B m cb r _ (hu.out.ext x1) hm.out hwr.out (by omega)).mono ?_
  rintro e w3 ⟨A3, n3, c3, rfl, hn3, hc3, hv3, x2⟩
  replace q0 := x2.keep q0
  replace q1 := x2.keep q1
  replace x1 := x1.trans x2
  replace hv2 := Lib.hid (hv2.out.ext x2)
  replace hn3 := Lib.hid hn3
  replace hv3 := Lib.hid hv3
  clear x2
  have hl2 : n2 ≤ 60 := by
    have := setOf_len l
    rw [hn2.out, hn.out] at this
    omega
  have hl3 : n3 ≤ 60 := by
    have := setOf_len r
    rw [hn3.out, hm.out] at this
    omega
  have hsub : IntKind.i64.wrap ((n : Int) - 1) = (n : Int) - 1 := IntWalk.i64_in _ (by omega)
  go_wp2
  go_loopw [10, 11, 12] (TurnRel w3 n l c t) (fun _ _ i _ => (intOf i + 1).toNat)
  case atStart => exact ⟨n, [], (n : Int) - 1, Nat.le_refl _, rfl, rfl, by rw [List.drop_eq_nil_of_le (by rw [hn.out]; exact Nat.le_refl _)]; simp [inOf, memS], Lib.hid (OwnS.nil _ _), Ext.refl _, Lib.hid (by rw [List.drop_eq_nil_of_le (by rw [hn.out]; exact Nat.le_refl _)]; rfl), by simp⟩
  case round =>
    clear hsub
    obtain ⟨k, lo, z, hk, hz, rfl, rfl, ho, hx, hlo, hll⟩ := hrel
    cases k with
    | succ k =>
      obtain rfl : z = (k : Int) := by omega
      obtain ⟨b, o, x, y, z, rfl, hp, d0, d1, d2⟩ := (hv.out.ext x1).at (k := k) (by rw [hn.out]; omega)
      have c0 := hx.keep d0
      have c1 := hx.keep d1
      have c2' := hx.keep d2
      have hd := Lib.hid (inOf_drop hp c t)
      have hlo2 := Lib.hid (show lo ++ [(x, y, z)] = (l.drop k).reverse by rw [hlo.out, reverse_drop hp])
      clear hp hlo hz
      have hi1 : (0 : Int) ≤ (k : Int) := by omega
      have hi2 : (k : Int) < (n : Int) := by omega
      generalize inOf (l.drop (k + 1)) c t = bb at *
      go_wp2_with (first
        | (at_builtin
           refine wpList_append_S (w0 := w3) rfl (.tmp 37) (.tmp 42) rfl _ lo rfl (ho.out.alloc _) (hx.alloc _) _ 1 1 [(x, y, z)] rfl rfl (SpS.new _ x y z) (by simp; omega) ?_
           intro v5 w5 o5 x5 g5))
      clear g5 c0 c1 c2'
      have c0 := x5.keep d0
      have c1 := x5.keep d1
      have c2' := x5.keep d2
      have p0 := x5.keep q0
      have p1 := x5.keep q1
      replace o5 := Lib.hid o5
      obtain ⟨bn, hbn⟩ : ∃ bn, inOf (l.drop k) c t = bn := ⟨_, rfl⟩
      rw [hbn] at hd
      replace hbn := Lib.hid hbn
      have hsb : IntKind.i64.wrap ((k : Int) - 1) = (k : Int) - 1 := IntWalk.i64_in _ (by omega)
      clear d0 d1 d2 q0 q1
      cases bb with
      | true =>
        obtain rfl : bn = true := by rw [hd.out, Bool.true_or]
        go_quiet (fail)
        go_wp2
        go_roundw
        case rel => exact ⟨k, _, (k : Int) - 1, by omega, rfl, by go_num, by rw [hbn.out], Lib.hid (o5.out.ext ((Ext.refl _).drewN _)), x5.drewN _, hlo2, by simp only [List.length_append, List.length_cons, List.length_nil]; omega⟩
        case measure => simp [intOf]
      | false =>
        replace hd := Lib.hid (show bn = (decide (c ≠ 0) && inS (x, y, z) c t) by rw [hd.out, Bool.false_or])
        by_cases h1 : x = c
        · subst h1
          by_cases h2 : x = 0
          · subst h2
            obtain rfl : bn = false := by rw [hd.out]; simp
            clear hd
            go_quiet (fail)
            go_wp2
            go_roundw
            case rel => exact ⟨k, _, (k : Int) - 1, by omega, rfl, by go_num, by rw [hbn.out], Lib.hid (o5.out.ext ((Ext.refl _).drewN _)), x5.drewN _, hlo2, by simp only [List.length_append, List.length_cons, List.length_nil]; omega⟩
            case measure => simp [intOf]
          · have g2 : (x != 0) = true := by simpa using h2
            by_cases h3 : y ≤ t
            · have g3 : decide (y ≤ t) = true := by simpa using h3
              by_cases h4 : t < z
              · have g4 : decide (t < z) = true := by simpa using h4
                obtain rfl : bn = true := by rw [hd.out, inS_iff.2 ⟨rfl, h3, h4⟩]; simpa using h2
                clear hd h2
                go_quiet (fail)
                go_wp2
                go_roundw
                case rel => exact ⟨k, _, (k : Int) - 1, by omega, rfl, by go_num, by rw [hbn.out], Lib.hid (o5.out.ext ((Ext.refl _).drewN _)), x5.drewN _, hlo2, by simp only [List.length_append, List.length_cons, List.length_nil]; omega⟩
                case measure => simp [intOf]
              · have g4 : decide (t < z) = false := by simpa using h4
                obtain rfl : bn = false := by rw [hd.out, inS_not.2 (fun h => h4 h.2.2)]; simp
                clear hd h2 h4
                go_quiet (fail)
                go_wp2
                go_roundw
                case rel => exact ⟨k, _, (k : Int) - 1, by omega, rfl, by go_num, by rw [hbn.out], Lib.hid (o5.out.ext ((Ext.refl _).drewN _)), x5.drewN _, hlo2, by simp only [List.length_append, List.length_cons, List.length_nil]; omega⟩
                case measure => simp [intOf]
            · have g3 : decide (y ≤ t) = false := by simpa using h3
              obtain rfl : bn = false := by rw [hd.out, inS_not.2 (fun h => h3 h.2.1)]; simp
              clear hd h2 h3
              go_quiet (fail)
              go_wp2
              go_roundw
              case rel => exact ⟨k, _, (k : Int) - 1, by omega, rfl, by go_num, by rw [hbn.out], Lib.hid (o5.out.ext ((Ext.refl _).drewN _)), x5.drewN _, hlo2, by simp only [List.length_append, List.length_cons, List.length_nil]; omega⟩
              case measure => simp [intOf]
        · have g1 : (x == c) = false := by simpa using h1
          obtain rfl : bn = false := by rw [hd.out, inS_not.2 (fun h => h1 h.1)]; simp
          clear hd h1
          go_quiet (fail)
          go_wp2
          go_roundw
          case rel => exact ⟨k, _, (k : Int) - 1, by omega, rfl, by go_num, by rw [hbn.out], Lib.hid (o5.out.ext ((Ext.refl _).drewN _)), x5.drewN _, hlo2, by simp only [List.length_append, List.length_cons, List.length_nil]; omega⟩
          case measure => simp [intOf]
    | zero =>
      obtain rfl : z = -1 := by omega
      clear hz hk
      rw [List.drop_zero] at hlo ⊢
      obtain ⟨A4, c4, e4, s4⟩ := SpS.own ho.out
      subst e4
      replace hll : lo.length = n := by omega
      rw [hll]
      rw [hlo.out] at s4 hll
      replace s4 := Lib.hid s4
      replace hll := Lib.hid hll
      clear ho hlo
      have hwv := Lib.hid (show wfS l.reverse from fun p hp => hwl.out p (List.mem_reverse.1 hp))
      replace q0 := hx.keep q0
      replace q1 := hx.keep q1
      replace x1 := x1.trans hx
      replace hv2 := Lib.hid (hv2.out.ext hx)
      replace hv3 := Lib.hid (hv3.out.ext hx)
      clear hx
      obtain ⟨bb, hbb⟩ : ∃ bb, inOf l c t = bb := ⟨_, rfl⟩
      rw [hbb]
      have hcc : cntS (setOfS (l ++ r)) ≤ cntS (setOfS l) + cntS (setOfS r) := by
        rw [← setOf_both]; exact cnt_both (setOf_may l) (setOf_may r)
      have hc1 := cnt_le (setOf_wf hwl.out)
      have hc2' := cnt_le (setOf_wf hwr.out)
      have hc3' := cnt_nonneg (setOf_may l)
      have hc4' := cnt_nonneg (setOf_may r)
      rw [hn2.out] at hc1
      rw [hn3.out] at hc2'
      have hh1 := inOf_good hwl.out hc0 t
      have hwb := Lib.hid (show wfS (l ++ r) from fun p hp => (List.mem_append.1 hp).elim (hwl.out p) (hwr.out p))
      have hh2 := inOf_good hwb.out hc0 t
      have hh3 := inOf_good hwr.out hc0 t
      rw [inOf_both, ← hh3, hbb] at hh2
      rw [hbb] at hh1
      replace hbb := Lib.hid hbb
      replace hh1 := Lib.hid hh1
      replace hh2 := Lib.hid hh2
      clear hh3
      go_wp2_with fail
      refine (of_any A4 n c4 l.reverse _ s4.out hll.out hwv.out (by omega)).mono ?_
      rintro e w5 ⟨A5, n5, c5, rfl, hn5, hc5, hv5, x2⟩
      rw [setOf_rev] at hn5 hv5
      obtain rfl : n5 = n2 := by rw [← hn5, ← hn2.out]
      replace q0 := x2.keep q0
      replace q1 := x2.keep q1
      replace x1 := x1.trans x2
      replace hv2 := Lib.hid (hv2.out.ext x2)
      replace hv3 := Lib.hid (hv3.out.ext x2)
      replace hv5 := Lib.hid hv5
      clear x2 hn5 s4 hll hwv
      go_wp2_with fail
      refine (sameS_any A5 A2 n5 c5 c2 (setOfS l) _ hv5.out hv2.out hn2.out (by omega)).mono ?_
      rintro e w6 ⟨rfl, x2⟩
      replace q0 := x2.keep q0
      replace q1 := x2.keep q1
      replace x1 := x1.trans x2
      replace hv2 := Lib.hid (hv2.out.ext x2)
      replace hv3 := Lib.hid (hv3.out.ext x2)
      clear x2 hv5
      have hwo := Lib.hid (setOf_wf hwl.out)
      go_wp2_with fail
      refine (of_any A2 n5 c2 (setOfS l) _ hv2.out hn2.out hwo.out (by omega)).mono ?_
      rintro e w7 ⟨A7, n7, c7, rfl, hn7, hc7, hv7, x2⟩
      rw [setOf_self (setOf_may l)] at hn7 hv7
      obtain rfl : n7 = n5 := by rw [← hn7, ← hn2.out]
      replace q0 := x2.keep q0
      replace q1 := x2.keep q1
      replace x1 := x1.trans x2
      replace hv2 := Lib.hid (hv2.out.ext x2)
      replace hv3 := Lib.hid (hv3.out.ext x2)
      replace hv7 := Lib.hid hv7
      clear x2 hn7
      go_wp2_with fail
      refine (sameS_any A7 A2 n7 c7 c2 (setOfS l) _ hv7.out hv2.out hn2.out (by omega)).mono ?_
      rintro e w8 ⟨rfl, x2⟩
      replace q0 := x2.keep q0
      replace q1 := x2.keep q1
      replace x1 := x1.trans x2
      replace hv2 := Lib.hid (hv2.out.ext x2)
      replace hv3 := Lib.hid (hv3.out.ext x2)
      clear x2 hv7
      go_wp2_with fail
      refine (join_any A2 A3 n7 n3 c2 c3 (setOfS l) (setOfS r) _ hv2.out hv3.out hn2.out hn3.out hc2 hc3 (setOf_may l) (setOf_may r) (by omega)).mono ?_
      rintro e w9 ⟨A9, n9, c9, rfl, hn9, hc9, hv9, x2⟩
      rw [setOf_both] at hn9 hv9
      have hl9 : n9 ≤ 120 := by
        have := setOf_len (l ++ r)
        rw [hn9, List.length_append, hn.out, hm.out] at this
        omega
      replace q0 := x2.keep q0
      replace q1 := x2.keep q1
      replace x1 := x1.trans x2
      replace hv2 := Lib.hid (hv2.out.ext x2)
      replace hv3 := Lib.hid (hv3.out.ext x2)
      replace hn9 := Lib.hid hn9
      replace hv9 := Lib.hid hv9
      clear x2
      have m2 := Lib.hid (setOf_may l)
      have m3 := Lib.hid (setOf_may r)
      have m9 := Lib.hid (setOf_may (l ++ r))
      have f3 := Lib.hid (setOf_wf hwr.out)
      have f9 := Lib.hid (setOf_wf hwb.out)
      go_wp2_with fail
      refine (mayR_any A2 n7 c2 (setOfS l) _ hv2.out hn2.out hwo.out (by omega)).mono ?_
      rintro e w10 ⟨rfl, x2⟩
      rw [m2.out]
      replace q0 := x2.keep q0
      replace q1 := x2.keep q1
      replace x1 := x1.trans x2
      replace hv2 := Lib.hid (hv2.out.ext x2)
      replace hv3 := Lib.hid (hv3.out.ext x2)
      replace hv9 := Lib.hid (hv9.out.ext x2)
      clear x2
      go_wp2_with fail
      refine (mayR_any A9 n9 c9 (setOfS (l ++ r)) _ hv9.out hn9.out f9.out (by omega)).mono ?_
      rintro e w11 ⟨rfl, x2⟩
      rw [m9.out]
      replace q0 := x2.keep q0
      replace q1 := x2.keep q1
      replace x1 := x1.trans x2
      replace hv2 := Lib.hid (hv2.out.ext x2)
      replace hv3 := Lib.hid (hv3.out.ext x2)
      replace hv9 := Lib.hid (hv9.out.ext x2)
      clear x2
      go_wp2_with fail
      refine (has_any A2 n7 c2 (setOfS l) c t _ hv2.out hn2.out m2.out (by omega)).mono ?_
      rintro e w12 ⟨rfl, x2⟩
      rw [hh1.out]
      replace q0 := x2.keep q0
      replace q1 := x2.keep q1
      replace x1 := x1.trans x2
      replace hv2 := Lib.hid (hv2.out.ext x2)
      replace hv3 := Lib.hid (hv3.out.ext x2)
      replace hv9 := Lib.hid (hv9.out.ext x2)
      clear x2
      have hbe : (bb == bb) = true := by simp
      go_wp2_with fail
      refine (has_any A9 n9 c9 (setOfS (l ++ r)) c t _ hv9.out hn9.out m9.out (by omega)).mono ?_
      rintro e w13 ⟨rfl, x2⟩
      rw [hh2.out]
      replace q0 := x2.keep q0
      replace q1 := x2.keep q1
      replace x1 := x1.trans x2
      replace hv2 := Lib.hid (hv2.out.ext x2)
      replace hv3 := Lib.hid (hv3.out.ext x2)
      replace hv9 := Lib.hid (hv9.out.ext x2)
      clear x2
      cases bb with
      | true =>
        rw [Bool.true_or]
        go_wp2_with fail
        refine (count_any A9 n9 c9 (setOfS (l ++ r)) _ hv9.out hn9.out f9.out m9.out (by omega)).mono ?_
        rintro e w20 ⟨rfl, x2⟩
        replace q0 := x2.keep q0
        replace q1 := x2.keep q1
        replace x1 := x1.trans x2
        replace hv2 := Lib.hid (hv2.out.ext x2)
        replace hv3 := Lib.hid (hv3.out.ext x2)
        replace hv9 := Lib.hid (hv9.out.ext x2)
        clear x2
        go_wp2_with fail
        refine (count_any A2 n7 c2 (setOfS l) _ hv2.out hn2.out hwo.out m2.out (by omega)).mono ?_
        rintro e w21 ⟨rfl, x2⟩
        replace q0 := x2.keep q0
        replace q1 := x2.keep q1
        replace x1 := x1.trans x2
        replace hv2 := Lib.hid (hv2.out.ext x2)
        replace hv3 := Lib.hid (hv3.out.ext x2)
        replace hv9 := Lib.hid (hv9.out.ext x2)
        clear x2
        go_wp2_with fail
        refine (count_any A3 n3 c3 (setOfS r) _ hv3.out hn3.out f3.out m3.out (by omega)).mono ?_
        rintro e w22 ⟨rfl, x2⟩
        replace x1 := x1.trans x2
        clear x2 q0 q1
        generalize cntS (setOfS (l ++ r)) = z1 at *
        generalize cntS (setOfS l) = z2 at *
        generalize cntS (setOfS r) = z3 at *
        have hwz : IntKind.u64.wrap (z2 + z3) = z2 + z3 := by simp [IntKind.wrap, IntKind.bits, IntKind.signed]; omega
        go_wp2
        go_ret
        exact ⟨by simp, x1⟩
      | false =>
        rw [Bool.false_or]
        go_wp2_with fail
        refine (has_any A3 n3 c3 (setOfS r) c t _ hv3.out hn3.out m3.out (by omega)).mono ?_
        rintro e w14 ⟨rfl, x2⟩
        replace q0 := x2.keep q0
        replace q1 := x2.keep q1
        replace x1 := x1.trans x2
        replace hv2 := Lib.hid (hv2.out.ext x2)
        replace hv3 := Lib.hid (hv3.out.ext x2)
        replace hv9 := Lib.hid (hv9.out.ext x2)
        clear x2
        clear hh2
        generalize memS (setOfS r) c t = b3 at *
        have hb3 : (b3 == b3) = true := by simp
        go_wp2_with fail
        refine (count_any A9 n9 c9 (setOfS (l ++ r)) _ hv9.out hn9.out f9.out m9.out (by omega)).mono ?_
        rintro e w20 ⟨rfl, x2⟩
        replace q0 := x2.keep q0
        replace q1 := x2.keep q1
        replace x1 := x1.trans x2
        replace hv2 := Lib.hid (hv2.out.ext x2)
        replace hv3 := Lib.hid (hv3.out.ext x2)
        replace hv9 := Lib.hid (hv9.out.ext x2)
        clear x2
        go_wp2_with fail
        refine (count_any A2 n7 c2 (setOfS l) _ hv2.out hn2.out hwo.out m2.out (by omega)).mono ?_
        rintro e w21 ⟨rfl, x2⟩
        replace q0 := x2.keep q0
        replace q1 := x2.keep q1
        replace x1 := x1.trans x2
        replace hv2 := Lib.hid (hv2.out.ext x2)
        replace hv3 := Lib.hid (hv3.out.ext x2)
        replace hv9 := Lib.hid (hv9.out.ext x2)
        clear x2
        go_wp2_with fail
        refine (count_any A3 n3 c3 (setOfS r) _ hv3.out hn3.out f3.out m3.out (by omega)).mono ?_
        rintro e w22 ⟨rfl, x2⟩
        replace x1 := x1.trans x2
        clear x2 q0 q1
        generalize cntS (setOfS (l ++ r)) = z1 at *
        generalize cntS (setOfS l) = z2 at *
        generalize cntS (setOfS r) = z3 at *
        have hwz : IntKind.u64.wrap (z2 + z3) = z2 + z3 := by simp [IntKind.wrap, IntKind.bits, IntKind.signed]; omega
        go_wp2
        go_ret
        exact ⟨by simp, x1⟩

set_option maxRecDepth 100000 in
theorem rsame_lifted (os : Os) (started : os.Started) (H : Type) (enc : TypeId × Value → H) :
    ReturnsInHanded {} Try.checked os 4 .any (Rows.rangesSameSpec.pre6 enc Try.prog Try.f4 Rows.rangesSameRow.domain false) (Rows.rangesSameSpec.post enc Try.prog Try.f4 false true false false) := by
  refine returnsInHanded_of_change (C := Try.checked) own started (by kernel_rfl) Try.func4
    (ChangeSpec.witness6 (enc := enc) (C := Try.checked) false ⟨#[], #[.slice none 0 0, .slice none 0 0, .agg #[.int .u32 0, .int .u32 0]], []⟩ 8 (by kernel_rfl) (by kernel_rfl) (by kernel_rfl) (by kernel_rfl)) ?_
  intro W base args ds gs before hval0 hW _ _
  have hval : ∀ (j : Nat) t v, Try.f4.params[j]? = some t → args[j]? = some v → Value.okWide Try.prog W .any base t v := hval0
  have hW' := hW
  obtain ⟨p, q, hA0, hV, rfl, _, _⟩ := hW
  have hA : DataW.TrodAll enc Try.prog W 0 (fun _ => true) true Try.f4.params.toList args.toList ds p := hA0
  rw [Try.params4] at hA hval
  obtain ⟨v0, v1, v2, d0, d1, d2, p0, p1, p2, rfl, rfl, rfl, h0, h1, h2⟩ := trodAll_three hA
  obtain ⟨rfl, rfl⟩ := trodVars_none hV
  obtain ⟨A, n, ca, l, rfl, hn, hca, hn1, hv, hwl⟩ := spans_open (hval 0 22 v0 rfl rfl) h0
  obtain ⟨B, m, cb, r, rfl, hm, hcb, hm1, hu, hwr⟩ := spans_open (hval 1 22 v1 rfl rfl) h1
  obtain ⟨c, t, rfl, rfl, rfl, wc, wt⟩ := id_opens (hval 2 25 v2 rfl rfl) h2
  clear hA0 hval0
  refine (rsame_walk A B n m ca cb l r c t W hv hu hn hm hca hcb hwl hwr hn1 hm1 (bounds_u32 wc).1).mono fun e W' ⟨he, hg⟩ => ?_
  subst he
  exact ⟨_, rfl, law_post hW' laid (by decide +kernel) rfl rfl rfl rfl hg (by kernel_rfl) Try.underlying4⟩

theorem rsame_holds : Rows.RangesSameSaid :=
  OpenClaim.holds_of_wide 4 Try.f4 rfl rfl rfl rfl rfl rfl rfl ⟨rfl, rfl, rfl, rfl, rfl⟩ rfl rfl rfl rfl rfl (by kernel_rfl) Try.func4 (by kernel_rfl)
    (of_decide_eq_true (by kernel_rfl)) (by unfold Func.isWrapper; first | (rw [if_pos (by decide +kernel)]; kernel_rfl) | (rw [if_neg (by decide +kernel)]; exact ⟨rfl, rfl⟩))
    (fun os started H enc _ => rsame_lifted os started H enc)

end Go.Proofs.Ytiacfkipkbjmjaa
