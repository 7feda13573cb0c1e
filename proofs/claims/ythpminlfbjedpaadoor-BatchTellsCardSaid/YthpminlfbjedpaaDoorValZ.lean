/-
  The contract of utf8.Valid at bytes; no claim stands here.
-/
import Derived.Shelf.Unicode.DecodeSlow
import Derived.Deep.DeepMust
import Derived.Deep.DeepBigQuietO
import Derived.Test.YthpminlfbjedpaaDoorZH
namespace Go.Proofs.YthpminlfbjedpaaDoor
open Go.ChangeShapes Go.WideShapes Go.ChangeAt Go.RowKit Go.Sort
set_option linter.unusedVariables false
attribute [local go_sem] World.cell?_alloc_some


/-- what is left of bytes behind the first k -/
theorem tailV {w : World} {A : Option Addr} {t : List UInt8} {m : Nat} (hb : Bys w A t) (hl : t.length = m) (k : Nat) (hk : k ≤ m) (z : Int) (hz : z = k) :
    ∃ A' m', m' + k = m ∧ (t.drop k).length = m' ∧ Bys w A' (t.drop k) ∧ ∀ W, (Instr.slice 26 (.slice A m m) (some (.int .i64 z)) none none).run Tryd.prog W = .ok (.slice A' m' m') W :=
  ⟨cutA A m k 1, m - k, by omega, by rw [List.length_drop, hl], hb.cut hl (Nat.le_refl _) hk, fromB A m m k hk z hz⟩
/-- the same, where some are left -/
theorem tailP {w : World} {A : Option Addr} {t : List UInt8} {m : Nat} (hb : Bys w A t) (hl : t.length = m) (k : Nat) (hk : k < m) (z : Int) (hz : z = k) :
    ∃ b o m', m' + k = m ∧ (t.drop k).length = m' ∧ Bys w (some ⟨b, o, none⟩) (t.drop k) ∧ ∀ W, (Instr.slice 26 (.slice A m m) (some (.int .i64 z)) none none).run Tryd.prog W = .ok (.slice (some ⟨b, o, none⟩) m' m') W := by
  obtain ⟨A', m', h1, h2, h3, h4⟩ := tailV hb hl k (by omega) z hz
  obtain ⟨b, o, rfl⟩ := h3.place (by omega)
  exact ⟨b, o, m', h1, h2, h3, h4⟩
theorem wordQ {w : World} {b o m : Nat} {t : List UInt8} (hb : Bys w (some ⟨b, o, none⟩) t) (hl : t.length = m) (h8 : 8 ≤ m) (hn : m ≤ 30000) (W : World) (hx : Ext w W) :
    Calls Tryd.prog 68 #[.slice (some ⟨b, o, none⟩) m m] W fun e w' => e = .returned (.int .u64 (wordOf t)) ∧ ∃ q, w' = W.drewN q := word_any b o m m t W (hb.ext hx) hl h8 hn
theorem wordR {w wq : World} {b o m : Nat} {t : List UInt8} (hb : Bys w (some ⟨b, o, none⟩) t) (hl : t.length = m) (h8 : 8 ≤ m) (hn : m ≤ 30000) (hx : Ext w wq) (q : Nat) :
    Hid (Calls Tryd.prog 68 #[.slice (some ⟨b, o, none⟩) m m] (wq.drewN q) fun e w'' => e = .returned (.int .u64 (wordOf t)) ∧ ∃ n, w'' = wq.drewN n) := Lib.hid (Calls.quiet_of (wordQ hb hl h8 hn (wq.drewN q) (hx.drewN q)))
theorem ascV {t : List UInt8} {k : Nat} {ANS : Bool} (h : ∀ b ∈ t.take k, b.toNat < 128) (hv : Lib.validD t = ANS) : Lib.validD (t.drop k) = ANS := by rw [← Lib.validD_ascii k t h, hv]
theorem asc_more {t : List UInt8} {a b : Nat} (ha : ∀ x ∈ t.take a, x.toNat < 128) (hb : ∀ x ∈ (t.drop a).take b, x.toNat < 128) : ∀ x ∈ t.take (a + b), x.toNat < 128 := by
  intro x hx
  rw [List.take_add] at hx
  rcases List.mem_append.1 hx with h | h
  · exact ha x h
  · exact hb x h
theorem asc_first {t : List UInt8} (h : (t.getD 0 0).toNat < 128) : ∀ x ∈ t.take 1, x.toNat < 128 := by
  intro x hx
  cases t with
  | nil => simp at hx
  | cons a r =>
    obtain rfl : x = a := by simpa using hx
    exact h
theorem and7 : ∀ X : Fin 256, bits .and .u8 ((X.val : Nat) : Int) 7 = ((X.val % 8 : Nat) : Int) := by decide +kernel

/-- what Valid's loop keeps -/
def VRel (w : World) (ANS : Bool) (gk : Nat) (s0 : Value) (W : World) : Prop := Ext w W ∧ ∃ (A : Option Addr) (m : Nat) (t : List UInt8), s0 = .slice A m m ∧ t.length = m ∧ Bys w A t ∧ Lib.validD t = ANS ∧ m < gk ∧ m ≤ 30000
theorem u64_masked {a : Nat} (h : a < 18446744073709551616) : bits .and .u64 (a : Int) 9259542123273814144 = ((a &&& 9259542123273814144 : Nat) : Int) := u64_and_nat a 9259542123273814144 h (by omega)

set_option maxHeartbeats 16000000 in
set_option maxRecDepth 1000000 in
theorem valid_any (A : Option Addr) (n c : Nat) (l : List UInt8) (w : World) (hb : Bys w A l) (hl : l.length = n) (hc : n ≤ c) (hn : n ≤ 30000) (hT : Tabs w) :
    Calls Tryd.prog 65 #[.slice A n c] w fun e w' => e = .returned (.bool (Lib.validD l)) ∧ Ext w w' := by
  have mixed : Tryd.prog.follows Departure.mixedOrders = true := by kernel_rfl
  obtain ⟨ANS, hANS⟩ : ∃ ANS, Lib.validD l = ANS := ⟨_, rfl⟩
  rw [hANS]
  have hclip := clipB A n c hc n rfl
  replace hb := Lib.hid hb
  replace hl := Lib.hid hl
  replace hT := Lib.hid hT
  replace hANS := Lib.hid hANS
  go_enter Tryd.func65, Tryd.ntmps65
  go_wp2
  go_loopg [0] (n + 1) (VRel w ANS)
  case atStart => exact ⟨Ext.refl _, A, n, l, rfl, hl.out, hb.out, hANS.out, by omega, hn⟩
  case round =>
    clear hclip hb hl hANS hc
    obtain ⟨hx, A, m, t, rfl, hl, hb, hv, hg, hm⟩ := hrel
    replace hv := Lib.hid hv
    replace hl := Lib.hid hl
    by_cases h0 : 0 < m
    · obtain ⟨g', rfl⟩ : ∃ g', gk = g' + 1 := ⟨gk - 1, by omega⟩
      obtain ⟨b, o, rfl⟩ := hb.place (by rw [hl.out]; exact h0)
      have hc0 := (hb.ext hx).all 0 (by rw [hl.out]; exact h0)
      rw [Nat.add_zero, Vb] at hc0
      replace hb := Lib.hid hb
      have hx0 := (t.getD 0 0).toNat_lt
      by_cases hasc : (t.getD 0 0).toNat < 128
      · have v1 := Lib.hid (ascV (asc_first hasc) hv.out)
        generalize (t.getD 0 0).toNat = x0 at hc0 hx0 hasc
        obtain ⟨A1, m1, e1, l1, b1, hfr1⟩ := tailV hb.out hl.out 1 (by omega) 1 rfl
        replace b1 := Lib.hid b1
        replace l1 := Lib.hid l1
        as_aux_lemma =>
          by_cases c8 : 8 < m1
          · obtain ⟨b1', o1', hA1⟩ := b1.out.place (by rw [l1.out]; omega)
            subst hA1
            have cW1 := Lib.hid (wordQ b1.out l1.out (by omega) (by omega) wr hx)
            have lW1 := wordOf_lt (t.drop 1)
            have kW1 := wordOf_asc (l := t.drop 1) (by rw [l1.out]; omega)
            have hand1 := u64_masked lW1
            generalize wordOf (t.drop 1) = W1 at cW1 lW1 kW1 hand1
            generalize W1 &&& 9259542123273814144 = Z1 at kW1 hand1
            by_cases hz1 : Z1 = 0
            · have a8 := kW1.1 hz1
              have v2 := Lib.hid (ascV a8 v1.out)
              obtain ⟨b2, o2, m2, e2, l2, b2b, hfr2⟩ := tailP b1.out l1.out 8 c8 8 rfl
              replace b2b := Lib.hid b2b
              replace l2 := Lib.hid l2
              generalize (t.drop 1).drop 8 = t2 at v2 l2 b2b
              subst hz1
              clear kW1 a8
              go_wp2_with (go_at_call 68; refine cW1.out.mono ?_; rintro e W9 ⟨rfl, q1, rfl⟩)
              have hx1 : Ext w (wr.drewN q1) := hx.drewN q1
              generalize wr.drewN q1 = wq at hx1 ⊢
              clear cW1 hx
              by_cases c16 : 16 < m2
              · have c16b : decide ((16 : Int) < (m2 : Int)) = true := decide_eq_true (by omega)
                obtain ⟨b3, o3, m3, e3, l3, b3b, hfr3⟩ := tailP b2b.out l2.out 8 (by omega) 8 rfl
                have cW2 := wordR b2b.out l2.out (by omega) (by omega) hx1
                have cW3 := wordR b3b l3 (by omega) (by omega) hx1
                have lA := wordOf_lt t2
                have lB := wordOf_lt (t2.drop 8)
                have kA := wordOf_asc (l := t2) (by rw [l2.out]; omega)
                have kB := wordOf_asc (l := t2.drop 8) (by rw [l3]; omega)
                generalize wordOf t2 = WA at cW2 lA kA
                generalize wordOf (t2.drop 8) = WB at cW3 lB kB
                have hor := u64_or_nat WA WB lA lB
                have lor : WA ||| WB < 18446744073709551616 := Nat.or_lt_two_pow (n := 64) lA lB
                have hand2 := u64_masked lor
                have k2 : (WA ||| WB) &&& 9259542123273814144 = 0 → ∀ x ∈ t2.take 16, x.toNat < 128 := fun h => by
                  obtain ⟨p1, p2⟩ := (Lib.or_mask WA WB _).1 h
                  exact asc_more (a := 8) (b := 8) (kA.1 p1) (kB.1 p2)
                clear kA kB l3 b3b
                generalize WA ||| WB = WO at hor lor hand2 k2
                generalize WO &&& 9259542123273814144 = Z2 at hand2 k2
                by_cases hz2 : Z2 = 0
                · have v3 := Lib.hid (ascV (k2 hz2) v2.out)
                  obtain ⟨A4, m4, e4, l4, b4, hfr4⟩ := tailV b2b.out l2.out 16 (by omega) 16 rfl
                  replace b4 := Lib.hid b4
                  replace l4 := Lib.hid l4
                  generalize t2.drop 16 = t3 at v3 l4 b4
                  subst hz2
                  clear k2
                  go_big_quiet_o (first | (with_reducible exact (cW2 _).out) | (with_reducible exact (cW3 _).out))
                  have hx2 : Ext w (wq.drewN nq) := hx1.drewN nq
                  generalize wq.drewN nq = wq2 at hx2 ⊢
                  clear cW2 cW3 hx1
                  go_wp2
                  go_loopg [0] (m4 + 1) (fun gk s0 wx => VRel w ANS gk s0 wx ∧ ∃ A m, s0 = .slice A m m ∧ m ≤ m4)
                  case atStart => exact ⟨⟨hx2, A4, m4, t3, rfl, l4.out, b4.out, v3.out, by omega, by omega⟩, A4, m4, rfl, by omega⟩
                  case round =>
                    obtain ⟨⟨hxu, Au, mu, u, rfl, lu, bu, vu, hgu, hmu⟩, Au', mu', heq, hmu4⟩ := hrel
                    obtain ⟨rfl, rfl⟩ : Au' = Au ∧ mu' = mu := by injection heq with e1 e2 e3; exact ⟨e1.symm, e2.symm⟩
                    clear heq
                    replace vu := Lib.hid vu
                    by_cases c32 : 32 < mu'
                    · have c32b : decide ((32 : Int) < (mu' : Int)) = true := decide_eq_true (by omega)
                      obtain ⟨g3, rfl⟩ : ∃ g3, gk = g3 + 1 := ⟨gk - 1, by omega⟩
                      obtain ⟨bu0, ou0, hAu⟩ := bu.place (by rw [lu]; omega)
                      subst hAu
                      obtain ⟨b8, o8, m8, e8, l8, b8b, hfr8⟩ := tailP bu lu 8 (by omega) 8 rfl
                      obtain ⟨b16, o16, m16, e16, l16, b16b, hfr16⟩ := tailP bu lu 16 (by omega) 16 rfl
                      obtain ⟨b24, o24, m24, e24, l24, b24b, hfr24⟩ := tailP bu lu 24 (by omega) 24 rfl
                      obtain ⟨A32, m32, e32, l32, b32, hfr32⟩ := tailV bu lu 32 (by omega) 32 rfl
                      have d0 := wordR bu lu (by omega) (by omega) hxu
                      have d1 := wordR b8b l8 (by omega) (by omega) hxu
                      have d2 := wordR b16b l16 (by omega) (by omega) hxu
                      have d3 := wordR b24b l24 (by omega) (by omega) hxu
                      have f0 := wordOf_lt u
                      have f1 := wordOf_lt (u.drop 8)
                      have f2 := wordOf_lt (u.drop 16)
                      have f3 := wordOf_lt (u.drop 24)
                      have k0 := wordOf_asc (l := u) (by rw [lu]; omega)
                      have k1 := wordOf_asc (l := u.drop 8) (by rw [l8]; omega)
                      have k2 := wordOf_asc (l := u.drop 16) (by rw [l16]; omega)
                      have k3 := wordOf_asc (l := u.drop 24) (by rw [l24]; omega)
                      generalize wordOf u = B0 at d0 f0 k0
                      generalize wordOf (u.drop 8) = B1 at d1 f1 k1
                      generalize wordOf (u.drop 16) = B2 at d2 f2 k2
                      generalize wordOf (u.drop 24) = B3 at d3 f3 k3
                      have ho1 := u64_or_nat B0 B1 f0 f1
                      have ho2 := u64_or_nat B2 B3 f2 f3
                      have lo1 : B0 ||| B1 < 18446744073709551616 := Nat.or_lt_two_pow (n := 64) f0 f1
                      have lo2 : B2 ||| B3 < 18446744073709551616 := Nat.or_lt_two_pow (n := 64) f2 f3
                      have ho3 := u64_or_nat _ _ lo1 lo2
                      have lo3 : (B0 ||| B1) ||| (B2 ||| B3) < 18446744073709551616 := Nat.or_lt_two_pow (n := 64) lo1 lo2
                      have hand3 := u64_masked lo3
                      have k4 : ((B0 ||| B1) ||| (B2 ||| B3)) &&& 9259542123273814144 = 0 → ∀ x ∈ u.take 32, x.toNat < 128 := fun h => by
                        obtain ⟨p01, p23⟩ := (Lib.or_mask _ _ _).1 h
                        obtain ⟨p0, p1⟩ := (Lib.or_mask _ _ _).1 p01
                        obtain ⟨p2, p3⟩ := (Lib.or_mask _ _ _).1 p23
                        exact asc_more (a := 24) (b := 8) (asc_more (a := 16) (b := 8) (asc_more (a := 8) (b := 8) (k0.1 p0) (k1.1 p1)) (k2.1 p2)) (k3.1 p3)
                      clear k0 k1 k2 k3 b8b b16b b24b
                      generalize B0 ||| B1 = P1 at *
                      generalize B2 ||| B3 = P2 at *
                      generalize P1 ||| P2 = P3 at *
                      generalize P3 &&& 9259542123273814144 = Z3 at *
                      by_cases hz3 : Z3 = 0
                      · have v32 := Lib.hid (ascV (k4 hz3) vu.out)
                        subst hz3
                        clear k4
                        replace b32 := Lib.hid b32
                        replace bu := Lib.hid bu
                        go_wp2_with fail
                        go_big_quiet_o (first | (with_reducible exact (d0 _).out) | (with_reducible exact (d1 _).out) | (with_reducible exact (d2 _).out) | (with_reducible exact (d3 _).out))
                        go_wp2
                        go_roundg g3
                        case measure => omega
                        case rel => exact ⟨⟨hxu.drewN nq, A32, m32, u.drop 32, rfl, l32, b32.out, v32.out, by omega, by omega⟩, A32, m32, rfl, by omega⟩
                      · have hz3b : ((Z3 : Int) == 0) = false := by rw [beq_eq_false_iff_ne]; omega
                        clear k4
                        replace b32 := Lib.hid b32
                        replace bu := Lib.hid bu
                        go_wp2_with fail
                        go_big_quiet_o (first | (with_reducible exact (d0 _).out) | (with_reducible exact (d1 _).out) | (with_reducible exact (d2 _).out) | (with_reducible exact (d3 _).out))
                        go_wp2
                        go_roundg g'
                        case measure => omega
                        case rel => exact ⟨hxu.drewN nq, _, _, u, rfl, lu, bu.out, vu.out, by omega, by omega⟩
                    · have c32b : decide ((32 : Int) < (mu' : Int)) = false := decide_eq_false (by omega)
                      replace bu := Lib.hid bu
                      go_wp2_with fail
                      go_big_quiet_o (fail)
                      go_wp2
                      go_roundg g'
                      case measure => omega
                      case rel => exact ⟨hxu.drewN nq, _, _, u, rfl, lu, bu.out, vu.out, by omega, by omega⟩
                · have hz2b : ((Z2 : Int) == 0) = false := by rw [beq_eq_false_iff_ne]; omega
                  clear k2
                  go_big_quiet_o (first | (with_reducible exact (cW2 _).out) | (with_reducible exact (cW3 _).out))
                  go_wp2
                  go_roundg g'
                  case measure => omega
                  case rel => exact ⟨hx1.drewN nq, _, _, t2, rfl, l2.out, b2b.out, v2.out, by omega, by omega⟩
              · have c16b : decide ((16 : Int) < (m2 : Int)) = false := decide_eq_false (by omega)
                go_big_quiet_o (fail)
                go_wp2
                go_roundg g'
                case measure => omega
                case rel => exact ⟨hx1.drewN nq, _, _, t2, rfl, l2.out, b2b.out, v2.out, by omega, by omega⟩
            · have hz1b : ((Z1 : Int) == 0) = false := by rw [beq_eq_false_iff_ne]; omega
              clear kW1
              go_wp2_with (go_at_call 68; refine cW1.out.mono ?_; rintro e W9 ⟨rfl, q1, rfl⟩)
              go_roundg g'
              case measure => omega
              case rel => exact ⟨hx.drewN q1, _, _, t.drop 1, rfl, l1.out, b1.out, v1.out, by omega, by omega⟩
          · have c8z : ¬ ((8 : Int) < (m1 : Int)) := by omega
            go_wp2
            go_roundg g'
            case measure => omega
            case rel => exact ⟨hx, A1, m1, t.drop 1, rfl, l1.out, b1.out, v1.out, by omega, by omega⟩
      · have hge : 128 ≤ (t.getD 0 0).toNat := by omega
        have hne : t ≠ [] := fun h => by have := hl.out; rw [h] at this; simp at this; omega
        have hlead := Lib.validD_lead t hne hge
        have hTr := hT.out.ext hx
        have hfc := hTr.1 (t.getD 0 0).toNat hx0
        have hXlt : Lib.firstT (t.getD 0 0).toNat < 256 := by rcases Lib.firstT_cases (t.getD 0 0).toNat with h | h | h | h | h | h | h | h | h <;> omega
        rw [hl.out, hv.out] at hlead
        generalize (t.getD 0 0).toNat = x0 at hc0 hx0 hasc hge hlead hfc hXlt
        generalize Lib.firstT x0 = X at hlead hfc hXlt
        have h7 := and7 ⟨X, hXlt⟩
        have ha0 : wr.cell? ⟨1, X / 16 * 2, none⟩ = some (.int .u8 (Lib.accLo (X / 16))) := by rw [Nat.mul_comm]; exact (hTr.2 (X / 16) (by omega)).1
        have ha1 : wr.cell? ⟨1, X / 16 * 2 + 1, none⟩ = some (.int .u8 (Lib.accHi (X / 16))) := by rw [Nat.mul_comm]; exact (hTr.2 (X / 16) (by omega)).2
        generalize Lib.accLo (X / 16) = LO at ha0 hlead
        generalize Lib.accHi (X / 16) = HI at ha1 hlead
        have q1 := (t.getD 1 0).toNat_lt
        have q2 := (t.getD 2 0).toNat_lt
        have q3 := (t.getD 3 0).toNat_lt
        clear hTr hne
        have hX16 : X / 16 < 16 := by omega
        by_cases s2 : X % 8 = 2
        · as_aux_lemma =>
            have h7' : bits .and .u8 (X : Int) 7 = 2 := by simp only at h7; rw [h7]; omega
            simp only [s2, Lib.checkN, Nat.reduceEqDiff, if_true, if_false] at hlead
            clear h7
            by_cases hm2 : m < 2
            · have hf := Lib.hid (show ANS = false by rw [hlead, if_pos (.inl hm2)])
              have hmd : decide ((m : Int) < 2) = true := decide_eq_true (by omega)
              clear hlead
              go_wp2_with fail
              go_big_quiet_o (fail)
              go_wp2
              go_ret
              exact ⟨ret_bool (a := false) hf.out.symm, (hx.alloc _).drewN _⟩
            · have hmz : decide ((m : Int) < 2) = false := decide_eq_false (by omega)
              have e1 := (hb.out.ext hx).all 1 (by rw [hl.out]; omega)
              rw [Vb] at e1
              generalize (t.getD 1 0).toNat = x1 at e1 hlead q1
              by_cases w0 : x1 < LO
              · have hf := Lib.hid (show ANS = false by rw [hlead, if_pos (by omega)])
                have wz : decide ((x1 : Int) < (LO : Int)) = true := decide_eq_true (by omega)
                have wn : decide (x1 < LO) = true := decide_eq_true (by omega)
                clear hlead
                go_wp2_with fail
                go_big_quiet_o (fail)
                go_wp2
                go_ret
                exact ⟨ret_bool (a := false) hf.out.symm, (hx.alloc _).drewN _⟩
              · have wz0 : decide ((x1 : Int) < (LO : Int)) = false := decide_eq_false (by omega)
                have wn0 : decide (x1 < LO) = false := decide_eq_false (by omega)
                by_cases w1 : HI < x1
                · have hf := Lib.hid (show ANS = false by rw [hlead, if_pos (by omega)])
                  have wz : decide ((HI : Int) < (x1 : Int)) = true := decide_eq_true (by omega)
                  have wn : decide (HI < x1) = true := decide_eq_true (by omega)
                  clear hlead
                  go_wp2_with fail
                  go_big_quiet_o (fail)
                  go_wp2
                  go_ret
                  exact ⟨ret_bool (a := false) hf.out.symm, (hx.alloc _).drewN _⟩
                · have wz1 : decide ((HI : Int) < (x1 : Int)) = false := decide_eq_false (by omega)
                  have wn1 : decide (HI < x1) = false := decide_eq_false (by omega)
                  have hon := Lib.hid (show ANS = Lib.validD (t.drop 2) by rw [hlead, if_neg (by omega)])
                  obtain ⟨A9, m9, e9, l9, b9, hfr9⟩ := tailV hb.out hl.out 2 (by omega) 2 rfl
                  replace b9 := Lib.hid b9
                  clear hlead
                  go_wp2_with fail
                  go_big_quiet_o (fail)
                  go_wp2
                  go_roundg g'
                  case measure => omega
                  case rel => exact ⟨(hx.alloc _).drewN _, A9, m9, t.drop 2, rfl, l9, b9.out, hon.out.symm, by omega, by omega⟩
        by_cases s3 : X % 8 = 3
        · as_aux_lemma =>
            have h7' : bits .and .u8 (X : Int) 7 = 3 := by simp only at h7; rw [h7]; omega
            simp only [s3, Lib.checkN, Nat.reduceEqDiff, if_true, if_false] at hlead
            clear h7
            by_cases hm3 : m < 3
            · have hf := Lib.hid (show ANS = false by rw [hlead, if_pos (.inl hm3)])
              have hmd : decide ((m : Int) < 3) = true := decide_eq_true (by omega)
              clear hlead
              go_wp2_with fail
              go_big_quiet_o (fail)
              go_wp2
              go_ret
              exact ⟨ret_bool (a := false) hf.out.symm, (hx.alloc _).drewN _⟩
            · have hmz : decide ((m : Int) < 3) = false := decide_eq_false (by omega)
              have e1 := (hb.out.ext hx).all 1 (by rw [hl.out]; omega)
              rw [Vb] at e1
              have e2 := (hb.out.ext hx).all 2 (by rw [hl.out]; omega)
              rw [Vb] at e2
              generalize (t.getD 1 0).toNat = x1 at e1 hlead q1
              generalize (t.getD 2 0).toNat = x2 at e2 hlead q2
              by_cases w0 : x1 < LO
              · have hf := Lib.hid (show ANS = false by rw [hlead, if_pos (by omega)])
                have wz : decide ((x1 : Int) < (LO : Int)) = true := decide_eq_true (by omega)
                have wn : decide (x1 < LO) = true := decide_eq_true (by omega)
                clear hlead
                go_wp2_with fail
                go_big_quiet_o (fail)
                go_wp2
                go_ret
                exact ⟨ret_bool (a := false) hf.out.symm, (hx.alloc _).drewN _⟩
              · have wz0 : decide ((x1 : Int) < (LO : Int)) = false := decide_eq_false (by omega)
                have wn0 : decide (x1 < LO) = false := decide_eq_false (by omega)
                by_cases w1 : HI < x1
                · have hf := Lib.hid (show ANS = false by rw [hlead, if_pos (by omega)])
                  have wz : decide ((HI : Int) < (x1 : Int)) = true := decide_eq_true (by omega)
                  have wn : decide (HI < x1) = true := decide_eq_true (by omega)
                  clear hlead
                  go_wp2_with fail
                  go_big_quiet_o (fail)
                  go_wp2
                  go_ret
                  exact ⟨ret_bool (a := false) hf.out.symm, (hx.alloc _).drewN _⟩
                · have wz1 : decide ((HI : Int) < (x1 : Int)) = false := decide_eq_false (by omega)
                  have wn1 : decide (HI < x1) = false := decide_eq_false (by omega)
                  by_cases w2 : x2 < 128
                  · have hf := Lib.hid (show ANS = false by rw [hlead, if_pos (by omega)])
                    have wz : decide ((x2 : Int) < (128 : Int)) = true := decide_eq_true (by omega)
                    have wn : decide (x2 < 128) = true := decide_eq_true (by omega)
                    clear hlead
                    go_wp2_with fail
                    go_big_quiet_o (fail)
                    go_wp2
                    go_ret
                    exact ⟨ret_bool (a := false) hf.out.symm, (hx.alloc _).drewN _⟩
                  · have wz2 : decide ((x2 : Int) < (128 : Int)) = false := decide_eq_false (by omega)
                    have wn2 : decide (x2 < 128) = false := decide_eq_false (by omega)
                    by_cases w3 : 191 < x2
                    · have hf := Lib.hid (show ANS = false by rw [hlead, if_pos (by omega)])
                      have wz : decide ((191 : Int) < (x2 : Int)) = true := decide_eq_true (by omega)
                      have wn : decide (191 < x2) = true := decide_eq_true (by omega)
                      clear hlead
                      go_wp2_with fail
                      go_big_quiet_o (fail)
                      go_wp2
                      go_ret
                      exact ⟨ret_bool (a := false) hf.out.symm, (hx.alloc _).drewN _⟩
                    · have wz3 : decide ((191 : Int) < (x2 : Int)) = false := decide_eq_false (by omega)
                      have wn3 : decide (191 < x2) = false := decide_eq_false (by omega)
                      have hon := Lib.hid (show ANS = Lib.validD (t.drop 3) by rw [hlead, if_neg (by omega)])
                      obtain ⟨A9, m9, e9, l9, b9, hfr9⟩ := tailV hb.out hl.out 3 (by omega) 3 rfl
                      replace b9 := Lib.hid b9
                      clear hlead
                      go_wp2_with fail
                      go_big_quiet_o (fail)
                      go_wp2
                      go_roundg g'
                      case measure => omega
                      case rel => exact ⟨(hx.alloc _).drewN _, A9, m9, t.drop 3, rfl, l9, b9.out, hon.out.symm, by omega, by omega⟩
        by_cases s4 : X % 8 = 4
        · as_aux_lemma =>
            have h7' : bits .and .u8 (X : Int) 7 = 4 := by simp only at h7; rw [h7]; omega
            simp only [s4, Lib.checkN, Nat.reduceEqDiff, if_true, if_false] at hlead
            clear h7
            by_cases hm4 : m < 4
            · have hf := Lib.hid (show ANS = false by rw [hlead, if_pos (.inl hm4)])
              have hmd : decide ((m : Int) < 4) = true := decide_eq_true (by omega)
              clear hlead
              go_wp2_with fail
              go_big_quiet_o (fail)
              go_wp2
              go_ret
              exact ⟨ret_bool (a := false) hf.out.symm, (hx.alloc _).drewN _⟩
            · have hmz : decide ((m : Int) < 4) = false := decide_eq_false (by omega)
              have e1 := (hb.out.ext hx).all 1 (by rw [hl.out]; omega)
              rw [Vb] at e1
              have e2 := (hb.out.ext hx).all 2 (by rw [hl.out]; omega)
              rw [Vb] at e2
              have e3 := (hb.out.ext hx).all 3 (by rw [hl.out]; omega)
              rw [Vb] at e3
              generalize (t.getD 1 0).toNat = x1 at e1 hlead q1
              generalize (t.getD 2 0).toNat = x2 at e2 hlead q2
              generalize (t.getD 3 0).toNat = x3 at e3 hlead q3
              by_cases w0 : x1 < LO
              · have hf := Lib.hid (show ANS = false by rw [hlead, if_pos (by omega)])
                have wz : decide ((x1 : Int) < (LO : Int)) = true := decide_eq_true (by omega)
                have wn : decide (x1 < LO) = true := decide_eq_true (by omega)
                clear hlead
                go_wp2_with fail
                go_big_quiet_o (fail)
                go_wp2
                go_ret
                exact ⟨ret_bool (a := false) hf.out.symm, (hx.alloc _).drewN _⟩
              · have wz0 : decide ((x1 : Int) < (LO : Int)) = false := decide_eq_false (by omega)
                have wn0 : decide (x1 < LO) = false := decide_eq_false (by omega)
                by_cases w1 : HI < x1
                · have hf := Lib.hid (show ANS = false by rw [hlead, if_pos (by omega)])
                  have wz : decide ((HI : Int) < (x1 : Int)) = true := decide_eq_true (by omega)
                  have wn : decide (HI < x1) = true := decide_eq_true (by omega)
                  clear hlead
                  go_wp2_with fail
                  go_big_quiet_o (fail)
                  go_wp2
                  go_ret
                  exact ⟨ret_bool (a := false) hf.out.symm, (hx.alloc _).drewN _⟩
                · have wz1 : decide ((HI : Int) < (x1 : Int)) = false := decide_eq_false (by omega)
                  have wn1 : decide (HI < x1) = false := decide_eq_false (by omega)
                  by_cases w2 : x2 < 128
                  · have hf := Lib.hid (show ANS = false by rw [hlead, if_pos (by omega)])
                    have wz : decide ((x2 : Int) < (128 : Int)) = true := decide_eq_true (by omega)
                    have wn : decide (x2 < 128) = true := decide_eq_true (by omega)
                    clear hlead
                    go_wp2_with fail
                    go_big_quiet_o (fail)
                    go_wp2
                    go_ret
                    exact ⟨ret_bool (a := false) hf.out.symm, (hx.alloc _).drewN _⟩
                  · have wz2 : decide ((x2 : Int) < (128 : Int)) = false := decide_eq_false (by omega)
                    have wn2 : decide (x2 < 128) = false := decide_eq_false (by omega)
                    by_cases w3 : 191 < x2
                    · have hf := Lib.hid (show ANS = false by rw [hlead, if_pos (by omega)])
                      have wz : decide ((191 : Int) < (x2 : Int)) = true := decide_eq_true (by omega)
                      have wn : decide (191 < x2) = true := decide_eq_true (by omega)
                      clear hlead
                      go_wp2_with fail
                      go_big_quiet_o (fail)
                      go_wp2
                      go_ret
                      exact ⟨ret_bool (a := false) hf.out.symm, (hx.alloc _).drewN _⟩
                    · have wz3 : decide ((191 : Int) < (x2 : Int)) = false := decide_eq_false (by omega)
                      have wn3 : decide (191 < x2) = false := decide_eq_false (by omega)
                      by_cases w4 : x3 < 128
                      · have hf := Lib.hid (show ANS = false by rw [hlead, if_pos (by omega)])
                        have wz : decide ((x3 : Int) < (128 : Int)) = true := decide_eq_true (by omega)
                        have wn : decide (x3 < 128) = true := decide_eq_true (by omega)
                        clear hlead
                        go_wp2_with fail
                        go_big_quiet_o (fail)
                        go_wp2
                        go_ret
                        exact ⟨ret_bool (a := false) hf.out.symm, (hx.alloc _).drewN _⟩
                      · have wz4 : decide ((x3 : Int) < (128 : Int)) = false := decide_eq_false (by omega)
                        have wn4 : decide (x3 < 128) = false := decide_eq_false (by omega)
                        by_cases w5 : 191 < x3
                        · have hf := Lib.hid (show ANS = false by rw [hlead, if_pos (by omega)])
                          have wz : decide ((191 : Int) < (x3 : Int)) = true := decide_eq_true (by omega)
                          have wn : decide (191 < x3) = true := decide_eq_true (by omega)
                          clear hlead
                          go_wp2_with fail
                          go_big_quiet_o (fail)
                          go_wp2
                          go_ret
                          exact ⟨ret_bool (a := false) hf.out.symm, (hx.alloc _).drewN _⟩
                        · have wz5 : decide ((191 : Int) < (x3 : Int)) = false := decide_eq_false (by omega)
                          have wn5 : decide (191 < x3) = false := decide_eq_false (by omega)
                          have hon := Lib.hid (show ANS = Lib.validD (t.drop 4) by rw [hlead, if_neg (by omega)])
                          obtain ⟨A9, m9, e9, l9, b9, hfr9⟩ := tailV hb.out hl.out 4 (by omega) 4 rfl
                          replace b9 := Lib.hid b9
                          clear hlead
                          go_wp2_with fail
                          go_big_quiet_o (fail)
                          go_wp2
                          go_roundg g'
                          case measure => omega
                          case rel => exact ⟨(hx.alloc _).drewN _, A9, m9, t.drop 4, rfl, l9, b9.out, hon.out.symm, by omega, by omega⟩
        have hf := Lib.hid (show ANS = false by rw [hlead]; simp only [Lib.checkN, s2, s3, s4, if_false])
        simp only at h7
        have hSZ : X % 8 < 8 := by omega
        generalize X % 8 = SZ at h7 s2 s3 s4 hSZ
        have z2 : ((SZ : Int) == 2) = false := by rw [beq_eq_false_iff_ne]; omega
        have z3 : ((SZ : Int) == 3) = false := by rw [beq_eq_false_iff_ne]; omega
        have z4 : ((SZ : Int) == 4) = false := by rw [beq_eq_false_iff_ne]; omega
        clear hlead
        go_wp2
        all_goals (go_ret; exact ⟨ret_bool (a := false) hf.out.symm, hx.alloc _⟩)
    · have ht0 : t = [] := List.eq_nil_of_length_eq_zero (by rw [hl.out]; omega)
      rw [ht0, Lib.validD_nil] at hv
      have hv' := hv.out
      subst hv'
      clear ht0
      go_wp2
      go_ret
      exact ⟨rfl, hx⟩

end Go.Proofs.YthpminlfbjedpaaDoor
