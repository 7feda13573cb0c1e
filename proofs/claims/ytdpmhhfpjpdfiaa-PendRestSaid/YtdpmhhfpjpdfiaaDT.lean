/-
  Several texts of this seat in one file, each in the namespace again; no claim stands here.
-/
import Derived.Deep.DeepCutAuto
import Derived.Deep.CutBlock
import Derived.Sort.Walk7
import Derived.Sort.LotC
import Derived.Sort.LotB
import Derived.BigRegion
import Derived.Room.AppendUpon
import Derived.Test.YtdpmhhfpjpdfiaaDL
import Derived.Test.YtdpmhhfpjpdfiaaLayXo
import Derived.Test.YtdpmhhfpjpdfiaaDR
import Derived.Test.YtdpmhhfpjpdfiaaDM
import Derived.Test.YtdpmhhfpjpdfiaaPdM
import Derived.Test.YtdpmhhfpjpdfiaaDN
namespace Go.Proofs.Ytdpmhhfpjpdfiaa
open Go.ChangeShapes Go.WideShapes Go.ChangeAt Go.RowKit Go.Sort
set_option linter.unusedVariables false
set_option linter.unusedSimpArgs false

def RnU (w0 : World) (blk off N : Nat) (d : Array Int) (c : Nat) (W : World) : Prop :=
  SWu w0 blk off N d W ∧ (∃ X : Nat, X < 18446744073709551616 ∧ W.cell? ⟨c, 0, none⟩ = some (.int .u64 X)) ∧ W.frozen? ⟨c, 0, none⟩ = false ∧ w0.heap.size ≤ c
theorem RnU.swapD {w0 W : World} {blk off N c : Nat} {dk : Array Int} (R : RoU w0 blk off N) (S : RnU w0 blk off N dk c W) {G : Nat → Int} (hG : Hid (∀ t, G t = dk[t]!)) (i j : Nat) (hi : i < N) (hj : j < N) :
    RnU w0 blk off N (swp dk i j) c ((W.setCell ⟨blk, off + i, none⟩ (.int .u32 (G j))).setCell ⟨blk, off + j, none⟩ (.int .u32 (G i))).drew := by
  have hne : c ≠ blk := by have := S.2.2.2; have := R.lt; omega
  obtain ⟨X, hX, hc⟩ := S.2.1
  refine ⟨SWu.swapD R S.1 hG i j hi hj, ⟨X, hX, ?_⟩, ?_, S.2.2.2⟩
  · show ((W.setCell _ _).setCell _ _).cell? _ = _
    rw [World.cell?_setCell_other _ _ _ _ (by intro e; simp only [Addr.mk.injEq] at e; exact hne e.1.symm), World.cell?_setCell_other _ _ _ _ (by intro e; simp only [Addr.mk.injEq] at e; exact hne e.1.symm)]
    exact hc
  · show ((W.setCell _ _).setCell _ _).frozen? _ = _
    rw [World.frozen?_setCell, World.frozen?_setCell]
    exact S.2.2.1
theorem next_u {w0 W : World} {blk off N c : Nat} {d : Array Int} (S : RnU w0 blk off N d c W) :
    Calls Try.prog 67 #[.pointer (some ⟨c, 0, none⟩)] W fun e w' => ∃ X : Nat, e = .returned (.int .u64 X) ∧ X < 18446744073709551616 ∧ RnU w0 blk off N d c w' := by
  obtain ⟨X, hX, hc⟩ := S.2.1
  refine (AnyF.xorshift_Next Try.xoN c 0 X hX W hc S.2.2.1).mono ?_
  rintro e w' ⟨rfl, rfl⟩
  refine ⟨_, rfl, xorNextN_lt X hX, ⟨⟨(S.1.1.setCell_new c 0 _ S.2.2.2).drewN 3, S.1.2⟩, ⟨_, xorNextN_lt X hX, ?_⟩, ?_, S.2.2.2⟩⟩
  · rw [World.cell?_drewN]; exact World.cell?_setCell_same _ _ _ hc
  · rw [World.frozen?_drewN, World.frozen?_setCell]; exact S.2.2.1
theorem pow2_u (n : Nat) (hn : n ≤ 1000000) (w : World) : Calls Try.prog 66 #[.int .i64 n] w fun e w' => e = .returned (.int .u64 ((1 <<< bitsLen n : Nat) : Int)) ∧ w = w' :=
  (AnyF.nextPowerOfTwo Try.np2 n (by omega) w).mono fun e w' h => ⟨h.1, h.2.symm⟩

set_option maxRecDepth 100000 in
set_option maxHeartbeats 4000000 in
theorem breakPatterns_u (w0 : World) (blk off cap a b N : Nat) (d : Array Int) (w : World) (R : RoU w0 blk off N) (S : SWu w0 blk off N d w) (hab : a + 8 < b) (hb : b ≤ N) (hsz : N ≤ 1000000) :
    Calls Try.prog 72 #[.slice (some ⟨blk, off, none⟩) N cap, .int .i64 a, .int .i64 b] w fun e w' => e = .returned (.tuple #[]) ∧ ∃ d', PermIn a b d d' ∧ SWu w0 blk off N d' w' := by
  replace S := Lib.hid S
  obtain ⟨n, hn⟩ : ∃ n : Nat, (b : Int) - (a : Int) = (n : Int) := ⟨b - a, by omega⟩
  obtain ⟨q, hq⟩ : ∃ q : Nat, (n : Int) / 4 = (q : Int) := ⟨n / 4, by omega⟩
  obtain ⟨e0, he0⟩ : ∃ i : Nat, (a : Int) + (q : Int) * 2 = (i : Int) := ⟨a + q * 2, by omega⟩
  have b0 : a + 2 ≤ e0 ∧ e0 + 1 < b := by omega
  have z8 : (8 : Int) ≤ (n : Int) := by omega
  obtain ⟨M, hM⟩ : ∃ M : Nat, M = 1 <<< bitsLen n := ⟨_, rfl⟩
  have hM1 : 1 ≤ M := by rw [hM, Nat.one_shiftLeft]; exact Nat.two_pow_pos _
  have hM2 : M ≤ 2 * n := by rw [hM, Nat.one_shiftLeft]; exact two_pow_bitsLen_le (by omega)
  have hP := fun W => pow2_u n (by omega) W
  rw [← hM] at hP
  replace hP := Lib.hid hP
  clear hM
  have S1 : Hid (RnU w0 blk off N d w.heap.size (w.alloc (.cells #[.int .u64 (n : Int)] 113))) := Lib.hid ⟨⟨S.out.1.alloc _, S.out.2⟩, ⟨n, by omega, by simp⟩, by simp, S.out.1.le⟩
  go_enter Try.func72, Try.ntmps72
  go_wp2_with fail
  clear S
  generalize w.alloc (.cells #[.int .u64 (n : Int)] 113) = w1 at *
  generalize w.heap.size = c at *
  refine (hP.out _).mono ?_
  rintro e w2 ⟨rfl, rfl⟩
  go_wp2_with fail
  go_loopw [9, 10] (fun vi _ wl => ∃ (i : Nat) (dk : Array Int), vi = .int .i64 i ∧ e0 ≤ i + 1 ∧ i ≤ e0 + 2 ∧ Hid (RnU w0 blk off N dk c wl) ∧ Hid (PermIn a b d dk)) (fun vi _ _ => e0 + 2 - (intOf vi).toNat)
  case atStart => exact ⟨e0 - 1, d, by congr 1; omega, by omega, by omega, S1, Lib.hid (permIn_refl d a b)⟩
  case round =>
    clear S1
    obtain ⟨i, dk, rfl, hi1, hi2, S2, HP⟩ := hrel
    by_cases hle : i ≤ e0 + 1
    · have hz : (i : Int) ≤ (e0 : Int) + 1 := by omega
      go_wp2_with fail
      refine (next_u S2.out).mono ?_
      rintro e w3 ⟨X, rfl, hX, S3⟩
      replace S3 := Lib.hid S3
      clear S2
      obtain ⟨O, hO⟩ : ∃ O : Nat, O = X &&& (M - 1) := ⟨_, rfl⟩
      have lO : O ≤ M - 1 := by rw [hO]; exact Nat.and_le_right
      have eAnd : bits .and .u64 (X : Int) ((M : Int) - 1) = (O : Int) := by
        rw [show ((M : Int) - 1) = ((M - 1 : Nat) : Int) by omega, bits_and_u64_nat _ _ hX (by omega), hO]
      clear hO
      go_upto_if 43 with fail
      go_cut [10] (fun s wx => ∃ o : Nat, s = .int .i64 o ∧ o < n ∧ Hid (RnU w0 blk off N dk c wx))
      case first =>
        by_cases hno : n ≤ O
        · have hz2 : (n : Int) ≤ (O : Int) := by omega
          go_wp2_with fail
          go_meet
          exact ⟨O - n, by congr 1; omega, by omega, S3⟩
        · have hz2 : ¬ (n : Int) ≤ (O : Int) := by omega
          go_wp2_with fail
          go_meet
          exact ⟨O, rfl, by omega, S3⟩
      case rest =>
        obtain ⟨o, rfl, ho, S4⟩ := hcut
        clear S3 eAnd lO
        obtain ⟨k, hk⟩ : ∃ k : Nat, (a : Int) + (o : Int) = (k : Int) := ⟨a + o, by omega⟩
        obtain ⟨G, HG, hcw, hfw⟩ := R.fam S4.out.1
        obtain ⟨u, hc2⟩ := fam_c2 hcw i k (.int .u32 (G k)) (by omega) (by omega)
        go_wp2_with fail
        go_region
        all_goals go_wp2_with fail
        go_roundw
        case rel => exact ⟨i + 1, swp dk i k, by go_num, by omega, by omega, Lib.hid (S4.out.swapD R HG i k (by omega) (by omega)), Lib.hid (permIn_trans _ _ _ a b HP.out (swp_permIn dk a b i k (by omega) (by omega) (by omega) (by omega) (by rw [S4.out.1.2]; omega)))⟩
        case measure => simp [intOf]; omega
    · have hz : ¬ (i : Int) ≤ (e0 : Int) + 1 := by omega
      go_wp2_with fail
      go_end0
      exact ⟨rfl, dk, HP.out, S2.out.1⟩

end Go.Proofs.Ytdpmhhfpjpdfiaa

namespace Go.Proofs.Ytdpmhhfpjpdfiaa
open Go.ChangeShapes Go.WideShapes Go.ChangeAt Go.RowKit Go.Sort
set_option linter.unusedVariables false
set_option linter.unusedSimpArgs false

abbrev BelU (a b : Nat) (d : Array Int) : Prop := Go.Sort.Below ltInt a b d
def FinU (a b : Nat) (d : Array Int) (i j : Nat) (dk : Array Int) : Prop := ∀ R, PermIn i j dk R → SortedIn ltInt i j R → PermIn a b d R ∧ SortedIn ltInt a b R
theorem FinU.perm {a b i j : Nat} {d dk d1 : Array Int} (h : FinU a b d i j dk) (hp : PermIn i j dk d1) : FinU a b d i j d1 := fun R hR hs => h R (permIn_trans _ _ _ i j hp hR) hs

set_option maxRecDepth 1000000 in
set_option maxHeartbeats 16000000 in
theorem pdq_u (w0 : World) (blk off cap N : Nat) (R : RoU w0 blk off N) (hsz : N ≤ 1000000) (n : Nat) : ∀ (a b : Nat) (l : Int) (d : Array Int) (w : World), b - a ≤ n → SWu w0 blk off N d w → a ≤ b → b ≤ N → BelU a b d →
    Calls Try.prog 62 #[.slice (some ⟨blk, off, none⟩) N cap, .int .i64 a, .int .i64 b, .int .i64 l] w fun e w' => e = .returned (.tuple #[]) ∧ ∃ d', PermIn a b d d' ∧ SortedIn ltInt a b d' ∧ SWu w0 blk off N d' w' := by
  induction n using Nat.strongRecOn with
  | _ n IH =>
  intro a b l d w hn S hab hb hB
  replace S := Lib.hid S
  replace hB := Lib.hid hB
  replace IH := Lib.hid IH
  go_enter Try.func62, Try.ntmps62
  go_wp2_with fail
  go_loopw [1, 2, 3, 8, 9] (fun va vb vl vx vy wl => ∃ (i j : Nat) (l : Int) (wb wp : Bool) (dk : Array Int), va = .int .i64 i ∧ vb = .int .i64 j ∧ vl = .int .i64 l ∧ vx = .bool wb ∧ vy = .bool wp ∧ a ≤ i ∧ i ≤ j ∧ j ≤ b ∧
      Hid (SWu w0 blk off N dk wl) ∧ Hid (BelU i j dk) ∧ Hid (FinU a b d i j dk)) (fun va vb _ _ _ _ => (intOf vb - intOf va).toNat)
  case atStart => exact ⟨a, b, l, true, true, d, rfl, rfl, rfl, rfl, rfl, Nat.le_refl _, hab, Nat.le_refl _, S, hB, Lib.hid (fun R h1 h2 => ⟨h1, h2⟩)⟩
  case round =>
    clear S hB
    obtain ⟨i, j, l, wb, wp, dk, rfl, rfl, rfl, rfl, rfl, hai, hij, hjb, S1, HB, HF⟩ := hrel
    obtain ⟨m, hm⟩ : ∃ m : Nat, (j : Int) - (i : Int) = (m : Int) := ⟨j - i, by omega⟩
    generalize wr = w1 at *
    by_cases h12 : m ≤ 12
    · have hz : (m : Int) ≤ 12 := by omega
      go_wp2_with fail
      refine (insertion_u w0 blk off cap i j N dk w1 R S1.out hij (by omega) hsz).mono ?_
      rintro e w2 ⟨rfl, S2⟩
      replace S2 := Lib.hid S2
      go_wp2_with fail
      (try simp only [Exit.inBlock, Exit.then]); refine bodyPost_ret (results_none rfl _ _ _) rfl ?_
      obtain ⟨p1, p2⟩ := insertionSort_holds (lt := ltInt) swo_ltInt dk i j hij (by rw [S1.out.2]; omega)
      obtain ⟨f1, f2⟩ := HF.out _ p1 p2
      exact ⟨rfl, _, f1, f2, S2.out⟩
    · have hz : ¬ (m : Int) ≤ 12 := by omega
      by_cases hl : l = 0
      · have hz2 : (l == 0) = true := by simpa using hl
        go_wp2_with fail
        refine (heapSort_u w0 blk off cap i j N dk w1 R S1.out (by omega) (by omega) hsz).mono ?_
        rintro e w2 ⟨rfl, S2⟩
        replace S2 := Lib.hid S2
        go_wp2_with fail
        (try simp only [Exit.inBlock, Exit.then]); refine bodyPost_ret (results_none rfl _ _ _) rfl ?_
        obtain ⟨p1, p2⟩ := heapSort_holds (lt := ltInt) swo_ltInt dk i j hij (by rw [S1.out.2]; omega)
        obtain ⟨f1, f2⟩ := HF.out _ p1 p2
        exact ⟨rfl, _, f1, f2, S2.out⟩
      · have hz2 : (l == 0) = false := by simpa using hl
        go_upto_if 35 with fail
        go_cut [3] (fun s wx => ∃ (l : Int) (d1 : Array Int), s = .int .i64 l ∧ Hid (PermIn i j dk d1) ∧ Hid (SWu w0 blk off N d1 wx))
        case first =>
          cases wb with
          | true =>
            go_wp2_with fail
            go_meet
            exact ⟨l, dk, rfl, Lib.hid (permIn_refl _ _ _), S1⟩
          | false =>
            go_wp2_with fail
            refine (breakPatterns_u w0 blk off cap i j N dk w1 R S1.out (by omega) (by omega) hsz).mono ?_
            rintro e w2 ⟨rfl, d1, P1, S2⟩
            replace S2 := Lib.hid S2
            replace P1 := Lib.hid P1
            go_wp2_with fail
            go_meet
            exact ⟨_, d1, rfl, P1, S2⟩
        case rest =>
          obtain ⟨l2, d1, rfl, P1, S2⟩ := hcut
          replace HF := Lib.hid (HF.out.perm P1.out)
          replace HB := Lib.hid (HB.out.perm (by rw [S1.out.2]; omega) P1.out)
          clear S1 P1 hz2 hl
          go_wp2_with fail
          refine (choosePivot_u w0 blk off cap i j N d1 wc R S2.out (by omega) (by omega) hsz).mono ?_
          rintro e w3 ⟨p, h, rfl, hp1, hp2, S3⟩
          replace S3 := Lib.hid S3
          clear S2
          go_upto_if 50 with fail
          go_cut [11, 12] (fun s t wx => ∃ (p : Nat) (h : Int) (d2 : Array Int), s = .int .i64 p ∧ t = .int .i64 h ∧ i ≤ p ∧ p < j ∧ Hid (PermIn i j d1 d2) ∧ Hid (SWu w0 blk off N d2 wx))
          case first =>
            by_cases h2 : h = 2
            · subst h2
              go_wp2_with fail
              refine (reverse_u w0 blk off cap i j N d1 w3 R S3.out (by omega) (by omega) hsz).mono ?_
              rintro e w4 ⟨rfl, S4⟩
              replace S4 := Lib.hid S4
              go_wp2_with fail
              go_meet
              exact ⟨(j - 1) - (p - i), 1, _, by congr 1; omega, rfl, by omega, by omega, Lib.hid (reverseRange_holds d1 i j hij (by rw [S3.out.2]; omega)), S4⟩
            · have h2' : (h == 2) = false := by simpa using h2
              go_wp2_with fail
              go_meet
              exact ⟨p, h, d1, rfl, rfl, hp1, hp2, Lib.hid (permIn_refl _ _ _), S3⟩
          case rest =>
            obtain ⟨p2, h2, d2, rfl, rfl, hp1', hp2', P2, S4⟩ := hcut
            replace HF := Lib.hid (HF.out.perm P2.out)
            replace HB := Lib.hid (HB.out.perm (by rw [S3.out.2]; omega) P2.out)
            clear S3 P2 hp1 hp2
            go_upto_region 15 with fail
            go_cut [68] (fun s wx => (∃ t : Bool, s = .bool t) ∧ Hid (SWu w0 blk off N d2 wx))
            case first =>
              by_cases h1 : h2 = 1
              · subst h1
                cases wb <;> cases wp <;>
                · go_wp2_with fail
                  go_meet
                  exact ⟨⟨_, rfl⟩, S4⟩
              · have h1' : (h2 == 1) = false := by simpa using h1
                cases wb <;> cases wp <;>
                · go_wp2_with fail
                  go_meet
                  exact ⟨⟨_, rfl⟩, S4⟩
            case rest =>
              obtain ⟨⟨t, rfl⟩, S5⟩ := hcut
              clear S4
              go_upto_if 68 with fail
              go_cut [72] (fun _ wx => ∃ d3, Hid (PermIn i j d2 d3) ∧ Hid (SWu w0 blk off N d3 wx))
              case first =>
                cases t with
                | true =>
                  go_wp2_with fail
                  refine (partialIns_u w0 blk off cap i j N d2 _ R S5.out (by omega) (by omega) hsz).mono ?_
                  rintro e w6 ⟨rfl, S6⟩
                  have hp := Lib.hid (partialInsertionSort_holds (lt := ltInt) swo_ltInt d2 i j (by omega) (by rw [S5.out.2]; omega) HB.out)
                  generalize partialInsertionSort ltInt d2 i j = T at *
                  replace S6 := Lib.hid S6
                  cases hT : T.2 with
                  | true =>
                    obtain ⟨f1, f2⟩ := HF.out _ hp.out.1 (hp.out.2 hT)
                    have hf := Lib.hid (And.intro f1 f2)
                    clear f1 f2
                    go_wp2_with fail
                    (try simp only [Exit.inBlock, Exit.then]); refine bodyPost_ret (results_none rfl _ _ _) rfl ?_
                    exact ⟨rfl, _, hf.out.1, hf.out.2, S6.out⟩
                  | false =>
                    go_wp2_with fail
                    go_meet
                    exact ⟨T.1, Lib.hid hp.out.1, S6⟩
                | false =>
                  go_wp2_with fail
                  go_meet
                  exact ⟨d2, Lib.hid (permIn_refl _ _ _), S5⟩
              case rest =>
                replace hcut := Lib.hid hcut
                obtain ⟨d3, P3, S6⟩ := hcut.out
                clear hcut
                replace HF := Lib.hid (HF.out.perm P3.out)
                replace HB := Lib.hid (HB.out.perm (by rw [S5.out.2]; omega) P3.out)
                clear S5 P3
                obtain ⟨G, HG, hcw, hfw⟩ := R.fam S6.out
                go_upto_region 17 with fail
                go_cut [87] (fun s wx => s = .bool (decide (0 < i) && !ltInt d3[i - 1]! d3[p2]!) ∧ Hid (SWu w0 blk off N d3 wx))
                case first =>
                  by_cases hi0 : 0 < i
                  · have hiz : (0 : Int) < (i : Int) := by omega
                    have hid : decide ((0 : Int) < (i : Int)) = true := decide_eq_true hiz
                    go_wp2_with fail
                    go_big_quiet (first | (go_at_call 76; refine less_q _ _ _ _))
                    go_wp2_with fail
                    all_goals
                      go_meet
                      exact ⟨by rw [← HG.out, ← HG.out]; simp [hi0], Lib.hid (S6.out.drewN _)⟩
                  · have hiz : ¬ (0 : Int) < (i : Int) := by omega
                    have hid : decide ((0 : Int) < (i : Int)) = false := decide_eq_false hiz
                    go_wp2_with fail
                    go_big_quiet (first | (go_at_call 76; refine less_q _ _ _ _))
                    go_wp2_with fail
                    all_goals
                      go_meet
                      exact ⟨by simp [hi0], Lib.hid (S6.out.drewN _)⟩
                case rest =>
                  obtain ⟨rfl, S7⟩ := hcut
                  clear S6 hcw hfw HG
                  cases hq : (decide (0 < i) && !ltInt d3[i - 1]! d3[p2]!) with
                  | true =>
                    have hq2 : 0 < i ∧ ltInt d3[i - 1]! d3[p2]! = false := by simpa using hq
                    obtain ⟨mid, d4, hx⟩ : ∃ mid d4, partitionEqual ltInt d3 i j p2 = (mid, d4) := ⟨_, _, rfl⟩
                    obtain ⟨e1, e2, e3, e4, e5⟩ := round_eq (lt := ltInt) swo_ltInt (partitionEqual_holds ltInt) hq2.1 hp1' hp2' (by rw [S7.out.2]; omega) HB.out hq2.2 hx
                    replace e4 := Lib.hid e4
                    replace e5 := Lib.hid e5
                    clear hq hq2
                    go_wp2_with fail
                    refine (partitionEqual_u w0 blk off cap i j p2 N d3 _ R S7.out hp1' hp2' (by omega) hsz).mono ?_
                    rintro e w8 ⟨rfl, S8⟩
                    rw [hx] at S8 ⊢
                    replace S8 := Lib.hid S8
                    go_wp2_with fail
                    go_roundw
                    case rel => exact ⟨mid, j, l2, wb, wp, d4, rfl, rfl, rfl, rfl, rfl, by omega, e2, hjb, S8, e4, Lib.hid (fun R h1 h2 => by obtain ⟨g1, g2⟩ := e5.out R h1 h2; exact HF.out R g1 g2)⟩
                    case measure => simp [intOf]; omega
                  | false =>
                    clear hq
                    obtain ⟨mid, ap, d4, hx⟩ : ∃ mid ap d4, partition ltInt d3 i j p2 = (mid, ap, d4) := ⟨_, _, _, rfl⟩
                    obtain ⟨e1, e2, e3, e4, e5, e6, e7⟩ := round_part (lt := ltInt) swo_ltInt (partition_holds ltInt) hp1' hp2' (by rw [S7.out.2]; omega) HB.out hx
                    replace e4 := Lib.hid e4
                    replace e5 := Lib.hid e5
                    replace e6 := Lib.hid e6
                    replace e7 := Lib.hid e7
                    go_wp2_with fail
                    refine (partition_u w0 blk off cap i j p2 N d3 _ R S7.out hp1' hp2' (by omega) hsz).mono ?_
                    rintro e w8 ⟨rfl, S8⟩
                    rw [hx] at S8 ⊢
                    replace S8 := Lib.hid S8
                    clear hx S7 HB
                    obtain ⟨ml, hml⟩ : ∃ q : Nat, (mid : Int) - (i : Int) = (q : Int) := ⟨mid - i, by omega⟩
                    obtain ⟨mr, hmr⟩ : ∃ q : Nat, (j : Int) - (mid : Int) = (q : Int) := ⟨j - mid, by omega⟩
                    obtain ⟨m8, hm8⟩ : ∃ q : Nat, (m : Int) / 8 = (q : Int) := ⟨m / 8, by omega⟩
                    obtain ⟨mp, hmp⟩ : ∃ q : Nat, (mid : Int) + 1 = (q : Int) := ⟨mid + 1, by omega⟩
                    by_cases hlr : ml < mr
                    · have hlz : (ml : Int) < (mr : Int) := by omega
                      go_wp2_with fail
                      refine (IH.out (mid - i) (by omega) i mid l2 d4 w8 (Nat.le_refl _) S8.out e1 (by omega) e4.out).mono ?_
                      rintro e w9 ⟨rfl, dL, P9, s9, S9⟩
                      replace S9 := Lib.hid S9
                      have hL := Lib.hid (e6.out dL P9 s9)
                      clear S8 P9 s9
                      go_wp2_with fail
                      go_roundw
                      case rel =>
                        have hmp' : mp = mid + 1 := by omega
                        exact ⟨mp, j, l2, _, ap, dL, rfl, rfl, rfl, rfl, rfl, by omega, by omega, hjb, S9, Lib.hid (by rw [hmp']; exact hL.out.1), Lib.hid (fun R h1 h2 => by rw [hmp'] at h1 h2; obtain ⟨g1, g2⟩ := hL.out.2 R h1 h2; exact HF.out R g1 g2)⟩
                      case measure => simp [intOf]; omega
                    · have hlz : ¬ (ml : Int) < (mr : Int) := by omega
                      go_wp2_with fail
                      have hmp' : mp = mid + 1 := by omega
                      refine (IH.out (j - mp) (by omega) mp j l2 d4 w8 (Nat.le_refl _) S8.out (by omega) (by omega) (by rw [hmp']; exact e5.out)).mono ?_
                      rintro e w9 ⟨rfl, dL, P9, s9, S9⟩
                      replace S9 := Lib.hid S9
                      rw [hmp'] at P9 s9
                      have hL := Lib.hid (e7.out dL P9 s9)
                      clear S8 P9 s9
                      go_wp2_with fail
                      go_roundw
                      case rel => exact ⟨i, mid, l2, _, ap, dL, rfl, rfl, rfl, rfl, rfl, by omega, by omega, by omega, S9, Lib.hid hL.out.1, Lib.hid (fun R h1 h2 => by obtain ⟨g1, g2⟩ := hL.out.2 R h1 h2; exact HF.out R g1 g2)⟩
                      case measure => simp [intOf]; omega

end Go.Proofs.Ytdpmhhfpjpdfiaa

namespace Go.Proofs.Ytdpmhhfpjpdfiaa
open Go.ChangeShapes Go.WideShapes Go.ChangeAt Go.RowKit Go.Sort
set_option linter.unusedVariables false
set_option linter.unusedSimpArgs false

set_option maxRecDepth 100000 in
theorem sort_u (blk off cap N : Nat) (d : Array Int) (w : World) (hH : Holds Vu w blk off d) (hN : d.size = N) (hblk : blk < w.heap.size) (hsz : N ≤ 1000000) :
    Calls Try.prog 45 #[.slice (some ⟨blk, off, none⟩) N cap] w fun e w' => e = .returned (.tuple #[]) ∧ ∃ d', PermIn 0 N d d' ∧ SortedIn ltInt 0 N d' ∧ SWu w blk off N d' w' := by
  have R : RoU w blk off N := ⟨⟨d, hH, hN⟩, hblk⟩
  have S : Hid (SWu w blk off N d w) := Lib.hid ⟨SW.start hH, hN⟩
  replace hH := Lib.hid hH
  have hb := Lib.hid (Any.bits_Len Try.bitsLn (N : Int) w (by omega) (by omega))
  go_enter Try.func45, Try.ntmps45
  go_wp2_with fail
  refine hb.out.mono ?_
  rintro e w1 ⟨rfl, rfl⟩
  go_wp2_with fail
  refine (pdq_u w1 blk off cap N R hsz N 0 N _ d w1 (Nat.le_refl _) S.out (Nat.zero_le _) (Nat.le_refl _) (Or.inl rfl)).mono ?_
  rintro e w2 ⟨rfl, d', p1, p2, p3⟩
  have p4 := Lib.hid (And.intro p1 (And.intro p2 p3))
  clear p1 p2 p3
  go_wp2_with fail
  go_end0
  exact ⟨rfl, d', p4.out.1, p4.out.2.1, p4.out.2.2⟩

end Go.Proofs.Ytdpmhhfpjpdfiaa

namespace Go.Proofs.Ytdpmhhfpjpdfiaa
open Go.ChangeShapes Go.WideShapes Go.ChangeAt Go.RowKit Go.Sort Go.Maps Go.Shelf
set_option linter.unusedVariables false
set_option linter.unusedSimpArgs false

theorem ext_sorted {blk N : Nat} {d : Array Int} {w0 w W : World} (hx : Ext w0 w) (h : SWu w blk 0 N d W) (hb : w0.heap.size ≤ blk) : Ext w0 W := by
  obtain ⟨⟨n, os, rfl⟩, _⟩ := h
  refine Ext.trans (b := putRow Vu (Sort.ahead w n) blk 0 d) ?_ (Ext.regrown _ _ os)
  refine ⟨RowKit.Below.os (w' := w) hx, RowKit.Below.tape (w' := w) hx, RowKit.Below.output (w' := w) hx, ?_, ?_⟩
  · exact Nat.le_trans hx.size (by rw [size_putRow]; exact Nat.le_refl _)
  · intro k hk
    rw [← RowKit.Below.block (w' := w) hx k hk]
    unfold putRow mapBlock
    show (w.heap.modify blk _)[k]? = w.heap[k]?
    rw [Array.getElem?_modify, if_neg (by omega)]

theorem insNil_u (w : World) : Calls Try.prog 70 #[.slice none 0 0, .int .i64 0, .int .i64 0] w fun e w' => e = .returned (.tuple #[]) ∧ w = w' := by
  go_enter Try.func70, Try.ntmps70
  go_wp2
  go_loopw [6] (fun vi wr => vi = .int .i64 1 ∧ wr = w) (fun _ _ => 0)
  case atStart => exact ⟨rfl, rfl⟩
  case round =>
    obtain ⟨rfl, rfl⟩ := hrel
    go_wp2
    go_end0
    exact ⟨rfl, rfl⟩
set_option maxRecDepth 100000 in
theorem pdqNil_u (l : Int) (w : World) : Calls Try.prog 62 #[.slice none 0 0, .int .i64 0, .int .i64 0, .int .i64 l] w fun e w' => e = .returned (.tuple #[]) ∧ w = w' := by
  go_enter Try.func62, Try.ntmps62
  go_wp2_with fail
  go_loopw [1, 2, 3, 8, 9] (fun va vb vl vx vy wl => va = .int .i64 0 ∧ vb = .int .i64 0 ∧ vl = .int .i64 l ∧ vx = .bool true ∧ vy = .bool true ∧ wl = w) (fun _ _ _ _ _ _ => 0)
  case atStart => exact ⟨rfl, rfl, rfl, rfl, rfl, rfl⟩
  case round =>
    obtain ⟨rfl, rfl, rfl, rfl, rfl, rfl⟩ := hrel
    go_wp2_with fail
    refine (insNil_u _).mono ?_
    rintro e w2 ⟨rfl, rfl⟩
    go_wp2_with fail
    (try simp only [Exit.inBlock, Exit.then]); refine bodyPost_ret (results_none rfl _ _ _) rfl ?_
    exact ⟨rfl, rfl⟩
theorem sortNil_u (w : World) : Calls Try.prog 45 #[.slice none 0 0] w fun e w' => e = .returned (.tuple #[]) ∧ w = w' := by
  have hb := Lib.hid (Any.bits_Len Try.bitsLn 0 w (by omega) (by omega))
  go_enter Try.func45, Try.ntmps45
  go_wp2_with fail
  refine hb.out.mono ?_
  rintro e w1 ⟨rfl, rfl⟩
  go_wp2_with fail
  refine (pdqNil_u _ _).mono ?_
  rintro e w2 ⟨rfl, rfl⟩
  go_wp2_with fail
  go_end0
  exact ⟨rfl, rfl⟩

set_option maxRecDepth 100000 in
theorem collect_u (Bm b nn : Nat) (D0 : DataW Unit) (hsz : Maps.size D0 ≤ 1000000) (w : World) (hBm : Bm < w.heap.size)
    (hm : w.cell? ⟨Bm, 0, none⟩ = some (.map (some b))) (hown : MapU w b nn D0) :
    Calls Try.prog 44 #[.func (.func 46) #[] #[.pointer (some ⟨Bm, 0, none⟩)]] w fun e W' => ∃ (v : Value) (ss : List Int), e = .returned v ∧ (ss.Nodup ∧ ∀ x, x ∈ ss ↔ has D0 (.int .u32 x) = true) ∧ ss.length ≤ Maps.size D0 ∧
      W'.ownsRow w.heap.size 28 1 v ss.length (ss.map (Value.int .u32)) ∧ (v = .slice none 0 0 ↔ ss = []) ∧ Below w.heap.size w W' := by
  have hc := fun W : World => Lib.hid (callsIn_wide.1 (appendSeq_u Fence.wide 3 trivial trivial rfl (by omega) Bm b nn D0 hsz w hBm hm hown))
  go_enter Try.func44, Try.ntmps44
  go_wp2_with fail
  refine (hc w).out.mono ?_
  rintro e w1 ⟨v, ss, rfl, h⟩
  replace h := Lib.hid h
  go_wp2_with fail
  go_ret
  exact ⟨v, ss, rfl, h.out⟩

abbrev RowU (W : World) (A : Option Addr) (ss : List Int) : Prop := Row W A (ss.map (Value.int .u32))

set_option maxRecDepth 100000 in
set_option maxHeartbeats 1000000 in
theorem sorted_u (Bm b nn : Nat) (D0 : DataW Unit) (hsz : Maps.size D0 ≤ 1000000) (w : World) (hBm : Bm < w.heap.size)
    (hm : w.cell? ⟨Bm, 0, none⟩ = some (.map (some b))) (hown : MapU w b nn D0) :
    Calls Try.prog 32 #[.func (.func 46) #[] #[.pointer (some ⟨Bm, 0, none⟩)]] w fun e W' => ∃ (A : Option Addr) (c : Nat) (ss : List Int), e = .returned (.slice A ss.length c) ∧ ss.length ≤ Maps.size D0 ∧ ss.Pairwise (· < ·) ∧ (∀ x, x ∈ ss ↔ has D0 (.int .u32 x) = true) ∧ RowU W' A ss ∧ Ext w W' := by
  have hc := Lib.hid (collect_u Bm b nn D0 hsz w hBm hm hown)
  clear hm hown
  go_enter Try.func32, Try.ntmps32
  go_wp2_with fail
  refine hc.out.mono ?_
  rintro e w1 ⟨v, ss, rfl, hS, hl, hrow, hnil, hB⟩
  replace hB := Lib.hid hB
  have hrow2 := hrow.2
  rcases hrow2 with ⟨rfl, hz⟩ | ⟨g, cap, cur, rfl, hbase, hgb, r1, r2, r3, r4⟩
  · have hss : ss = [] := List.eq_nil_of_length_eq_zero hz
    subst hss
    replace hS := Lib.hid hS
    replace hl := Lib.hid hl
    clear hrow hnil hz
    go_wp2_with fail
    refine (sortNil_u w1).mono ?_
    rintro e w2 ⟨rfl, rfl⟩
    go_wp2_with fail
    go_ret
    exact ⟨none, 0, [], rfl, hl.out, List.Pairwise.nil, hS.out.2, Row.nil _ _, hB.out⟩
  · obtain ⟨n, hn⟩ : ∃ n, ss.length = n := ⟨_, rfl⟩
    have hH : Holds Vu w1 g 0 ss.toArray := by
      intro j hj
      have hj' : j < ss.length := by simpa using hj
      refine ⟨?_, by simp [World.frozen?, hgb]⟩
      have h1 : (cur.toList.take (ss.length * 1))[j]? = (ss.map (Value.int .u32))[j]? := by rw [r4]
      rw [List.getElem?_take_of_lt (by omega)] at h1
      simp only [World.cell?, hgb, Nat.zero_add]
      simp only [Option.isSome_none, Bool.false_eq_true, if_false]
      rw [← Array.getElem?_toList, h1]
      simp [hj']
    have hg1 : g < w1.heap.size := (Array.getElem?_eq_some_iff.1 hgb).1
    have cS := Lib.hid (sort_u g 0 cap n ss.toArray w1 hH (by simpa using hn) hg1 (by omega))
    have hR : Hid (RoU w1 g 0 n) := Lib.hid ⟨⟨_, hH, by simpa using hn⟩, hg1⟩
    rw [hn]
    replace hS := Lib.hid hS
    replace hl := Lib.hid hl
    replace hn := Lib.hid hn
    replace hbase := Lib.hid hbase
    clear hrow hnil hgb r1 r2 r3 r4 hH hg1
    go_wp2_with fail
    refine cS.out.mono ?_
    rintro e w2 ⟨rfl, d', p1, p2, p3⟩
    have hp := Lib.hid (And.intro p1 (And.intro p2 p3))
    clear p1 p2 p3
    go_wp2_with fail
    go_ret
    obtain ⟨p1, p2, p3⟩ := hp.out
    have hsz' : d'.size = n := p3.2
    have hperm : d'.toList.Perm ss := by
      have h := p1.2.2
      have e1 : d'.extract 0 n = d' := by rw [← hsz']; exact Array.extract_size
      have e2 : ss.toArray.extract 0 n = ss.toArray := by rw [← hn.out]; simp
      rw [e1, e2] at h
      simpa using h
    have hH2 := hR.out.holds p3
    refine ⟨some ⟨g, 0, none⟩, cap, d'.toList, by simp [hsz'], by rw [hperm.length_eq]; exact hl.out, ?_, fun x => by rw [hperm.mem_iff]; exact hS.out.2 x, ?_, ext_sorted hB.out p3 hbase.out⟩
    · have hnd : d'.toList.Nodup := hperm.nodup_iff.2 hS.out.1
      rw [List.pairwise_iff_getElem]
      intro i j hi hj hij
      have h1 := p2 i j (Nat.zero_le _) hij (by simp at hj; omega)
      have e3 : d'[i]! = d'.toList[i] := by simp at hi; rw [getElem!_pos d' i (by omega)]; simp
      have e4 : d'[j]! = d'.toList[j] := by simp at hj; rw [getElem!_pos d' j (by omega)]; simp
      rw [e3, e4] at h1
      have h2 : ¬ d'.toList[j] < d'.toList[i] := by simpa [ltInt] using h1
      have h3 : d'.toList[i] ≠ d'.toList[j] := (List.pairwise_iff_getElem.1 hnd) i j hi hj hij
      omega
    · intro _
      refine ⟨g, 0, rfl, fun j u hu => ?_⟩
      rw [List.getElem?_map] at hu
      cases hj : d'.toList[j]? with
      | none => rw [hj] at hu; cases hu
      | some x =>
        rw [hj] at hu
        have hjl : j < d'.size := by
          have := List.getElem?_eq_some_iff.1 hj
          obtain ⟨h, _⟩ := this
          simpa using h
        have e5 : d'[j]! = x := by
          rw [getElem!_pos d' j hjl]
          have := List.getElem?_eq_some_iff.1 hj
          obtain ⟨h, e⟩ := this
          simpa using e
        rw [(hH2 j hjl).1, e5]
        simpa using hu

end Go.Proofs.Ytdpmhhfpjpdfiaa

namespace Go.Proofs.Ytdpmhhfpjpdfiaa
open Go.ChangeShapes Go.WideShapes Go.ChangeAt Go.RowKit Go.Sort
set_option linter.unusedVariables false
set_option linter.unusedSimpArgs false

theorem infoC : (Try.prog.info? 42).map (fun i => (i.zero, i.size, i.bytes)) = some (some (.agg #[.int .u32 0, .int .u32 0]), 2, 8) := by kernel_rfl
theorem fromC (A : Option Addr) (n cap : Nat) (k : Int) (W : World) (h0 : 0 ≤ k) (h1 : k ≤ n) :
    (Instr.slice 22 (.slice A n cap) (some (.int .i64 k)) none none).run Try.prog W = .ok (.slice (cutA A cap k.toNat 2) (n - k.toNat) (cap - k.toNat)) W := by
  obtain ⟨i, hi, hz0, hz1, hz2⟩ := info_parts infoC
  have := run_from Try.underlying22 hi A n cap k W h0 h1
  rw [hz1] at this
  exact this
def roomN (c : Nat) : Array Value := roomC (.agg #[.int .u32 0, .int .u32 0]) (c * 2)
theorem roomN_run (c : Nat) (h1 : c ≤ 3000) (k : Int) (hk : k = c) (W : World) :
    (Instr.makeSlice 22 (.int .i64 0) (.int .i64 k)).run Try.prog W = .ok (.slice (some ⟨W.heap.size, 0, none⟩) 0 c) (W.alloc (.cells (roomN c) 42)) := by
  subst hk
  obtain ⟨i, hi, hz0, hz1, hz2⟩ := info_parts infoC
  have := run_room Try.underlying22 hi hz0 hz1 hz2 (c : Int) W (by omega) (by omega) (by omega)
  rwa [Int.toNat_natCast] at this
theorem roomN_own {w0 W : World} (hx : Ext w0 W) (c : Nat) (h1 : c ≤ 3000) : (W.alloc (.cells (roomN c) 42)).ownsRow w0.heap.size 42 2 (.slice (some ⟨W.heap.size, 0, none⟩) 0 c) ([] : List (Int × Int)).length (flat encC []) :=
  World.ownsRow_made W _ _ hx.size (by unfold maxLen; omega) (roomC_size _ _)

theorem ownsC_form {w : World} {base : Nat} {v : Value} {n : Nat} {xs : List Value} (h : w.ownsRow base 42 2 v n xs) : ∃ A c, v = .slice A n c := by
  rcases h.2 with ⟨rfl, rfl⟩ | ⟨g, cap, cur, rfl, _⟩
  · exact ⟨_, _, rfl⟩
  · exact ⟨_, _, rfl⟩
theorem ownC_lt {w : World} {base : Nat} {v : Value} {n : Nat} {xs : List Value} (h : w.ownsRow base 42 2 v n xs) : ∀ k, v.ownBlock = some k → base ≤ k := fun k hk => (h.lt k hk).1

theorem wpList_append_C {w0 w : World} {ops : Array Oper} {rest : List Oper} {o : Oper} {a : Act} {Q : Exit → Act → World → Prop} (hgd : o.guard = none) (s x : Operand)
    (ho : o.op = .call { callee := .builtin .append, args := #[s, x], argTypes := #[22, 22] })
    (v : Value) (l : List (Int × Int)) (hs : a.eval s = v) (hown : w.ownsRow w0.heap.size 42 2 v l.length (flat encC l)) (hx : Ext w0 w)
    (A : Option Addr) (m c : Nat) (r : List (Int × Int)) (he : a.eval x = .slice A m c) (hm : r.length = m) (hr : Vec w A r) (hb : l.length + r.length ≤ 3000)
    (h : ∀ v' w', w'.ownsRow w0.heap.size 42 2 v' (l ++ r).length (flat encC (l ++ r)) → Ext w0 w' → wpList Try.prog ops Q rest (a.put o.dst v') w') : wpList Try.prog ops Q (o :: rest) a w := by
  obtain ⟨i, hi, hz0, hz1, hz2⟩ := info_parts infoC
  subst hm
  refine wpList_append_row w hgd s x _ ho w0.heap.size 42 i _ 2 8 Try.underlying22 hi hz0 hz1 hz2 rfl (by omega) v l.length _ hs hown A r.length c _ he (flat_len encC_len r) hr (flat_one_cell encC_one r)
    (by unfold maxLen; omega) (by omega) hx.size ?_
  intro v' w' h1 h2
  refine h v' w' ?_ (hx.grown h2 (ownC_lt hown))
  rw [flat_append, List.length_append]
  exact h1

theorem fromN (A : Option Addr) (n cap k : Nat) (h1 : k ≤ n) (z : Int) (hz : z = k) (W : World) : (Instr.slice 22 (.slice A n cap) (some (.int .i64 z)) none none).run Try.prog W = .ok (.slice (cutA A cap k 2) (n - k) (cap - k)) W := by
  subst hz; exact fromC A n cap k W (by omega) (by omega)
theorem Vec.take {w : World} {A : Option Addr} {l : List (Int × Int)} (h : Vec w A l) (k : Nat) : Vec w A (l.take k) := by
  unfold Vec; rw [flat_take encC_len]; exact Row.take h _
theorem Vec.cut {w : World} {A : Option Addr} {l : List (Int × Int)} (h : Vec w A l) {n cap k : Nat} (hn : l.length = n) (hc : n ≤ cap) (hk : k ≤ n) : Vec w (cutA A cap k 2) (l.drop k) := by
  unfold Vec; rw [flat_drop encC_len]; exact Row.cut h (n := n) (by rw [flat_len encC_len, hn]) hc hk
theorem Vec.new (w : World) (x y : Int) : Vec (w.alloc (.cells #[.int .u32 x, .int .u32 y] 42)) (some ⟨w.heap.size, 0, none⟩) [(x, y)] := Row.new w #[.int .u32 x, .int .u32 y] 42
theorem Vec.own {w : World} {base : Nat} {v : Value} {l : List (Int × Int)} (h : w.ownsRow base 42 2 v l.length (flat encC l)) : ∃ A c, v = .slice A l.length c ∧ Vec w A l := by
  obtain ⟨A, c, rfl⟩ := ownsC_form h
  exact ⟨A, c, rfl, Row.own h⟩

end Go.Proofs.Ytdpmhhfpjpdfiaa

namespace Go.Proofs.Ytdpmhhfpjpdfiaa
open Go.ChangeShapes Go.WideShapes Go.ChangeAt Go.RowKit Go.Sort
set_option linter.unusedVariables false
set_option linter.unusedSimpArgs false

def OwnC (w W : World) (v : Value) (l : List (Int × Int)) : Prop := W.ownsRow w.heap.size 42 2 v l.length (flat encC l)
theorem OwnC.nil (w W : World) : OwnC w W (.slice none 0 0) [] := World.ownsRow_nil W _ _ _

end Go.Proofs.Ytdpmhhfpjpdfiaa

namespace Go.Proofs.Ytdpmhhfpjpdfiaa
open Go.ChangeShapes Go.WideShapes Go.ChangeAt Go.RowKit Go.Sort
set_option linter.unusedVariables false
set_option linter.unusedSimpArgs false

theorem OwnC.ext {w W W' : World} {v : Value} {l : List (Int × Int)} (h : OwnC w W v l) (hx : Ext W W') : OwnC w W' v l := by
  unfold OwnC at h ⊢
  rcases h with ⟨h1, h2 | ⟨g, cap, cur, h2, h3, h4, h5⟩⟩
  · exact ⟨h1, .inl h2⟩
  · refine ⟨h1, .inr ⟨g, cap, cur, h2, h3, ?_, h5⟩⟩
    have hg : g < W.heap.size := by
      rcases Nat.lt_or_ge g W.heap.size with k | k
      · exact k
      · rw [Array.getElem?_eq_none k] at h4; cases h4
    rw [RowKit.Below.block hx g hg]; exact h4

attribute [local go_sem] World.cell?_alloc_some

def MrgKeep (w : World) (N : Nat) (L : List (Int × Int)) (kx : Nat) (s0 s1 s5 : Value) (W : World) : Prop :=
  ∃ (la lb lo : List (Int × Int)) (A B : Option Addr) (n m ca cb : Nat), s0 = .slice A n ca ∧ s1 = .slice B m cb ∧ Hid (la.length = n) ∧ Hid (lb.length = m) ∧ n ≤ ca ∧ m ≤ cb ∧ Hid (Vec w A la) ∧ Hid (Vec w B lb) ∧
    OwnC w W s5 lo ∧ Ext w W ∧ Hid (lo ++ mergeOf la lb = L) ∧ lo.length + n + m ≤ N ∧ n + m ≤ kx

def TwoC (W0 : World) (x y x' y' : Int) (p q : Value) (W : World) : Prop :=
  ∃ g h : Nat, p = .pointer (some ⟨g, 0, none⟩) ∧ q = .pointer (some ⟨h, 0, none⟩) ∧ W.cell? ⟨g, 0, none⟩ = some (Vu x) ∧ W.cell? ⟨g, 1, none⟩ = some (Vu y) ∧ W.cell? ⟨h, 0, none⟩ = some (Vu x') ∧ W.cell? ⟨h, 1, none⟩ = some (Vu y') ∧ Ext W0 W

theorem Vec.own2 {w : World} {base : Nat} {v : Value} {l : List (Int × Int)} (h : w.ownsRow base 42 2 v l.length (flat encC l)) : ∃ A c, v = .slice A l.length c ∧ Vec w A l ∧ l.length ≤ c := by
  obtain ⟨A, c, rfl⟩ := ownsC_form h
  refine ⟨A, c, rfl, Row.own h, ?_⟩
  rcases h.2 with ⟨e, _⟩ | ⟨g, cap, cur, e, _, _, hnc, _⟩
  · injection e with e1 e2 e3
    omega
  · injection e with e1 e2 e3
    omega
def RetVecR (w : World) (l : List (Int × Int)) (e : Ending) (w' : World) : Prop := ∃ A n c, e = .returned (.slice A n c) ∧ l.length = n ∧ Vec w' A l ∧ Ext w w' ∧ n ≤ c

set_option maxHeartbeats 4000000 in
theorem merge_room (A B : Option Addr) (n m cap cap' : Nat) (l r : List (Int × Int)) (w : World) (hv : Vec w A l) (hu : Vec w B r) (hn : l.length = n) (hm : r.length = m) (hnc : n ≤ cap) (hmc : m ≤ cap') (hb : n + m ≤ 900) :
    Calls Try.prog 34 #[.slice A n cap, .slice B m cap'] w (RetVecR w (mergeOf l r)) := by
  obtain ⟨L, hL⟩ : ∃ L, mergeOf l r = L := ⟨_, rfl⟩
  rw [hL]
  replace hL := Lib.hid hL
  replace hv := Lib.hid hv
  replace hu := Lib.hid hu
  replace hn := Lib.hid hn
  replace hm := Lib.hid hm
  have hmk := roomN_run (n + m) (by omega) ((n : Int) + (m : Int)) (by omega)
  go_enter Try.func34, Try.ntmps34
  go_wp2
  go_loopg [0, 1, 5] (n + m) (MrgKeep w (n + m) L)
  case atStart => exact ⟨l, r, [], A, B, n, m, cap, cap', rfl, rfl, hn, hm, hnc, hmc, hv, hu, roomN_own (Ext.refl w) _ (by omega), (Ext.refl w).alloc _, Lib.hid (by rw [List.nil_append]; exact hL.out), by simp, Nat.le_refl _⟩
  case round =>
    clear hL hv hu hmk
    obtain ⟨la, lb, lo, A, B, n1, m1, ca, cb, rfl, rfl, hn1, hm1, hca, hcb, hva, hvb, ho, hx, hrel, hN, hkx⟩ := hrel
    by_cases h0 : 0 < n1
    · by_cases h1 : 0 < m1
      · obtain ⟨b, o, x, y, rfl, hp, d0, d1⟩ := hva.out.at (k := 0) (by rw [hn1.out]; exact h0)
        obtain ⟨b', o', x', y', rfl, hp', d0', d1'⟩ := hvb.out.at (k := 0) (by rw [hm1.out]; exact h1)
        simp only [Nat.zero_mul, Nat.add_zero] at d0 d1 d0' d1'
        have c0 := hx.keep d0
        have c1 := hx.keep d1
        have c0' := hx.keep d0'
        have c1' := hx.keep d1'
        go_wp2_with fail
        go_cut [6, 7] (TwoC wr x y x' y')
        case first =>
          have b1 := World.block_lt_of_cell? wr _ c0
          have b2 := World.block_lt_of_cell? wr _ c0'
          simp only at b1 b2
          go_region
          all_goals
            go_wp2_with fail
            go_meet
            exact ⟨_, _, rfl, rfl, by simp [go_sem], by simp [go_sem], by simp [go_sem], by simp [go_sem], (((Ext.refl _).alloc _).alloc _).drew⟩
        case rest =>
          obtain ⟨g, h, rfl, rfl, g0, g1, i0, i1, x1⟩ := hcut
          replace ho := ho.ext x1
          replace hx := hx.trans x1
          clear c0 c1 c0' c1' d0 d1 d0' d1' x1
          have ea : la = (x, y) :: la.drop 1 := by
            obtain ⟨hk, e⟩ := List.getElem?_eq_some_iff.1 hp
            have := List.drop_eq_getElem_cons hk
            rw [e, List.drop_zero] at this
            exact this
          have eb : lb = (x', y') :: lb.drop 1 := by
            obtain ⟨hk, e⟩ := List.getElem?_eq_some_iff.1 hp'
            have := List.drop_eq_getElem_cons hk
            rw [e, List.drop_zero] at this
            exact this
          replace ea := Lib.hid ea
          replace eb := Lib.hid eb
          clear hp hp'
          have hfa := fromN (some ⟨b, o, none⟩) n1 ca 1 (by omega) 1 rfl
          have hfb := fromN (some ⟨b', o', none⟩) m1 cb 1 (by omega) 1 rfl
          have hva' := Lib.hid (hva.out.cut hn1.out hca (show 1 ≤ n1 by omega))
          have hvb' := Lib.hid (hvb.out.cut hm1.out hcb (show 1 ≤ m1 by omega))
          have hna' := Lib.hid (show (la.drop 1).length = n1 - 1 by rw [List.length_drop, hn1.out])
          have hnb' := Lib.hid (show (lb.drop 1).length = m1 - 1 by rw [List.length_drop, hm1.out])
          rcases Int.lt_trichotomy x x' with hxx | hxx | hxx
          · have hd := Lib.hid (show lo ++ [(x, y)] ++ mergeOf (la.drop 1) lb = L by
              rw [← hrel.out]
              conv => rhs; rw [ea.out, eb.out, merge_lt _ _ hxx, ← eb.out]
              simp)
            go_wp2_with (first
              | (at_builtin
                 refine wpList_append_C (w0 := w) rfl (.tmp 33) (.tmp 35) rfl _ lo rfl (World.ownsRow.alloc ho _) (hx.alloc _) _ 1 1 [(x, y)] rfl rfl (Vec.new wc x y) (by simp only [List.length_cons, List.length_nil]; omega) ?_
                 intro v2 w2 o2 x2))
            go_roundg (n1 - 1 + m1)
            case measure => omega
            case rel => exact ⟨la.drop 1, lb, lo ++ [(x, y)], _, _, n1 - 1, m1, ca - 1, cb, rfl, rfl, hna', hm1, by omega, hcb, hva', hvb, o2, x2, hd, by simp only [List.length_append, List.length_cons, List.length_nil]; omega, Nat.le_refl _⟩
          · subst hxx
            have hd := Lib.hid (show ∀ z : Int, z = max y y' → Hid (lo ++ [(x, z)] ++ mergeOf (la.drop 1) (lb.drop 1) = L) from fun z hz => Lib.hid (by
              subst hz
              rw [← hrel.out]
              conv => rhs; rw [ea.out, eb.out, merge_eq (p := (x, y)) (q := (x, y')) _ _ rfl]
              simp))
            go_wp2_with (first
              | (at_builtin
                 refine wpList_append_C (w0 := w) rfl (.tmp 50) (.tmp 59) rfl _ lo rfl (World.ownsRow.alloc ho _) (hx.alloc _) _ 1 1 [(x, _)] rfl rfl (Vec.new wc x _) (by simp only [List.length_cons, List.length_nil]; omega) ?_
                 intro v2 w2 o2 x2))
            all_goals
              go_quiet (fail)
              go_wp2
              go_roundg (n1 - 1 + (m1 - 1))
              case measure => omega
              case rel => exact ⟨la.drop 1, lb.drop 1, _, _, _, n1 - 1, m1 - 1, ca - 1, cb - 1, rfl, rfl, hna', hnb', by omega, by omega, hva', hvb', OwnC.ext o2 ((Ext.refl _).drewN _), x2.drewN _, hd.out _ (by omega), by simp only [List.length_append, List.length_cons, List.length_nil]; omega, Nat.le_refl _⟩
          · have hd := Lib.hid (show lo ++ [(x', y')] ++ mergeOf la (lb.drop 1) = L by
              rw [← hrel.out]
              conv => rhs; rw [ea.out, eb.out, merge_gt _ _ hxx, ← ea.out]
              simp)
            have hxx' : decide (x < x') = false := by simp; omega
            go_wp2_with (first
              | (at_builtin
                 refine wpList_append_C (w0 := w) rfl (.tmp 44) (.tmp 46) rfl _ lo rfl (World.ownsRow.alloc ho _) (hx.alloc _) _ 1 1 [(x', y')] rfl rfl (Vec.new wc x' y') (by simp only [List.length_cons, List.length_nil]; omega) ?_
                 intro v2 w2 o2 x2))
            go_roundg (n1 + (m1 - 1))
            case measure => omega
            case rel => exact ⟨la, lb.drop 1, lo ++ [(x', y')], _, _, n1, m1 - 1, ca, cb - 1, rfl, rfl, hn1, hnb', hca, by omega, hva, hvb', o2, x2, hd, by simp only [List.length_append, List.length_cons, List.length_nil]; omega, Nat.le_refl _⟩
      · have em : lb = [] := List.eq_nil_of_length_eq_zero (by rw [hm1.out]; omega)
        subst em
        obtain rfl : m1 = 0 := by omega
        have hd := Lib.hid (show lo ++ la ++ [] = L by rw [← hrel.out, merge_end, List.append_nil])
        go_wp2_with (first
          | (at_builtin
             refine wpList_append_C (w0 := w) rfl (.tmp 65) (.tmp 66) rfl _ lo rfl ho hx A n1 ca la rfl hn1.out (hva.out.ext hx) (by rw [hn1.out]; omega) ?_
             intro v2 w2 o2 x2)
          | (at_builtin
             refine wpList_append_C (w0 := w) rfl (.tmp 68) (.tmp 69) rfl v2 (lo ++ la) rfl o2 x2 B 0 cb [] rfl rfl (Vec.nil _ _) (by rw [List.length_append, hn1.out]; simp; omega) ?_
             intro v3 w3 o3 x3))
        go_ret
        obtain ⟨A4, c4, e4, h4, hc4⟩ := Vec.own2 o3
        subst e4
        exact ⟨A4, _, c4, rfl, by rw [← hd.out], by rw [← hd.out]; exact h4, x3, hc4⟩
    · have em : la = [] := List.eq_nil_of_length_eq_zero (by rw [hn1.out]; omega)
      subst em
      obtain rfl : n1 = 0 := by omega
      have hd := Lib.hid (show lo ++ [] ++ lb = L by rw [← hrel.out, merge_nil, List.append_nil])
      go_wp2_with (first
        | (at_builtin
           refine wpList_append_C (w0 := w) rfl (.tmp 65) (.tmp 66) rfl _ lo rfl ho hx A 0 ca [] rfl rfl (Vec.nil _ _) (by simp; omega) ?_
           intro v2 w2 o2 x2)
        | (at_builtin
           refine wpList_append_C (w0 := w) rfl (.tmp 68) (.tmp 69) rfl v2 (lo ++ []) rfl o2 x2 B m1 cb lb rfl hm1.out (hvb.out.ext x2) (by rw [List.length_append, hm1.out]; simp; omega) ?_
           intro v3 w3 o3 x3))
      go_ret
      obtain ⟨A4, c4, e4, h4, hc4⟩ := Vec.own2 o3
      subst e4
      exact ⟨A4, _, c4, rfl, by rw [← hd.out], by rw [← hd.out]; exact h4, x3, hc4⟩
end Go.Proofs.Ytdpmhhfpjpdfiaa

namespace Go.Proofs.Ytdpmhhfpjpdfiaa
open Go.ChangeShapes Go.WideShapes Go.ChangeAt Go.RowKit Go.Sort Go.Maps
set_option linter.unusedVariables false
set_option linter.unusedSimpArgs false
set_option linter.unusedSimpArgs false
attribute [local go_sem] World.cell?_alloc_some

def sinceV (V : List (Int × Int)) (ss : List Int) : List (Int × Int) := ss.map fun c => (c, nextOf V c)
theorem since_next (V : List (Int × Int)) : ∀ (ss : List Int) (c : Int), nextOf (sinceV V ss) c = if c ∈ ss then nextOf V c else 0
  | [], c => by simp [sinceV, nextOf]
  | s :: ss, c => by
    have ih := since_next V ss c
    show (if s = c then nextOf V s else nextOf (sinceV V ss) c) = _
    by_cases e : s = c
    · subst e
      simp
    · rw [if_neg e, ih]
      simp [Ne.symm e]
theorem since_may (V : List (Int × Int)) : ∀ (ss : List Int) (a : Int), ss.Pairwise (· < ·) → (∀ c ∈ ss, a < c ∧ 0 < nextOf V c) → mayFrom a (sinceV V ss) = true
  | [], a, _, _ => rfl
  | s :: ss, a, hp, h => by
    have hp' := List.pairwise_cons.1 hp
    show mayFrom a ((s, nextOf V s) :: sinceV V ss) = true
    rw [may_cons]
    have h1 := h s (by simp)
    exact ⟨by omega, by omega, since_may V ss s hp'.2 (fun c hc => ⟨hp'.1 c hc, (h c (by simp [hc])).2⟩)⟩
theorem next_out : ∀ {l : List (Int × Int)} {c : Int}, (∀ p ∈ l, p.1 ≠ c) → nextOf l c = 0
  | [], _, _ => rfl
  | p :: l, c, h => by
    show (if p.1 = c then p.2 else nextOf l c) = 0
    rw [if_neg (h p (by simp))]
    exact next_out fun q hq => h q (by simp [hq])
theorem merge_since {D : DataW Unit} {V0 V : List (Int × Int)} {ss : List Int} (hV : MapV D V0 V) (h0 : mayFrom 0 V0 = true) (hm : mayFrom 0 V = true) (hwf : wfC V) (hw0 : wfC V0) (hp : ss.Pairwise (· < ·)) (hs : ∀ x, x ∈ ss ↔ has D (.int .u32 x) = true) : mergeOf V0 (sinceV V ss) = V := by
  have hsm : mayFrom 0 (sinceV V ss) = true := since_may V ss 0 hp fun c hc => ⟨(hV.2 c ((hs c).1 hc)).1, (hV.2 c ((hs c).1 hc)).2.2.1⟩
  refine next_ext (merge_may _ _ h0 hsm) hm fun c => ?_
  rw [merge_next _ _ c h0 hsm, since_next]
  by_cases hc : c ∈ ss
  · rw [if_pos hc]
    have := (hV.2 c ((hs c).1 hc)).2.2.2
    omega
  · rw [if_neg hc]
    by_cases hr : 0 ≤ c ∧ c ≤ 4294967295
    · have := hV.1 c hr.1 hr.2
      rw [if_neg (fun e => hc ((hs c).2 e))] at this
      have := next_nonneg c h0
      omega
    · rw [next_out (l := V0) (fun p hp' e => hr (by have := hw0 p hp'; rw [e] at this; omega)), next_out (l := V) (fun p hp' e => hr (by have := hwf p hp'; rw [e] at this; omega))]
      rfl

def VeRel (w : World) (V : List (Int × Int)) (ss : List Int) (M : Nat) (v vi : Value) (wr : World) : Prop :=
  ∃ j : Nat, j ≤ M ∧ vi = .int .i64 (j : Nat) ∧ Hid (OwnC w wr v (sinceV V (ss.take j))) ∧ Hid (Ext w wr)

set_option maxRecDepth 100000 in
set_option maxHeartbeats 4000000 in
theorem vector_any (A : Option Addr) (n cap bS nn : Nat) (D : DataW Unit) (V0 V : List (Int × Int)) (w : World) (hv : Vec w A V0) (hn : V0.length = n) (hnc : n ≤ cap) (h0 : mayFrom 0 V0 = true) (hw0 : wfC V0) (hm : mayFrom 0 V = true) (hwf : wfC V) (hM : MapU w bS nn D) (hV : MapV D V0 V) (hb : n + nn ≤ 900) :
    Calls Try.prog 20 #[knv A n cap (some bS)] w (RetVecR w V) := by
  have hsz := hM.size_le
  have x1 : Ext w (w.alloc (.cells #[.slice A n cap, .map (some bS)] 46)) := (Ext.refl _).alloc _
  have c0 : (w.alloc (.cells #[.slice A n cap, .map (some bS)] 46)).cell? ⟨w.heap.size, 0, none⟩ = some (.slice A n cap) := by simp
  have c1 : (w.alloc (.cells #[.slice A n cap, .map (some bS)] 46)).cell? ⟨w.heap.size, 1, none⟩ = some (.map (some bS)) := by simp
  replace hM := Lib.hid hM
  replace hV := Lib.hid hV
  replace hv := Lib.hid hv
  replace hn := Lib.hid hn
  replace hwf := Lib.hid hwf
  replace hw0 := Lib.hid hw0
  go_enter Try.func20, Try.ntmps20
  go_wp2_with fail
  refine (keys_u _ _).mono ?_
  rintro e w2 ⟨rfl, e2⟩
  go_wp2_with fail
  have x2 : Ext w ((w.alloc (.cells #[.slice A n cap, .map (some bS)] 46)).alloc (.cells #[.map (some bS)] 44)) := x1.alloc _
  refine (sorted_u (w.heap.size + 1) bS nn D (by omega) _ (by simp) (by simp) (hM.out.ext x2)).mono ?_
  rintro e w3 ⟨As, cs, ss, rfl, hsl, hsp, hsm, hrow, x3⟩
  have x03 := Lib.hid (x2.trans x3)
  have c0 := x3.keep (((Ext.refl _).alloc (.cells #[.map (some bS)] 44)).keep c0)
  have c1 := x3.keep (((Ext.refl _).alloc (.cells #[.map (some bS)] 44)).keep c1)
  have hM3 := Lib.hid (hM.out.ext x03.out)
  have hv3 := Lib.hid (hv.out.ext x03.out)
  clear x1 x2 x3
  obtain ⟨M, hMe⟩ : ∃ M, ss.length = M := ⟨_, rfl⟩
  have hMn : M ≤ nn := by omega
  rw [hMe]
  replace hMe := Lib.hid hMe
  replace hsp := Lib.hid hsp
  replace hsm := Lib.hid hsm
  replace hrow := Lib.hid hrow
  clear hsl hsz
  generalize w.heap.size = pk at *
  go_wp2_with fail
  go_loopw [3, 11] (VeRel w3 V ss M) (fun _ vi _ => M - (intOf vi).toNat)
  case atStart => exact ⟨0, Nat.zero_le _, rfl, Lib.hid (OwnC.nil _ _), Lib.hid (Ext.refl _)⟩
  case round =>
    obtain ⟨j, hjM, rfl, ho, hx⟩ := hrel
    have c0' := hx.out.keep c0
    have c1' := hx.out.keep c1
    by_cases hlt : j < M
    · obtain ⟨bb, oo, eA, hcl⟩ := hrow.out (by rw [List.length_map, hMe.out]; omega)
      obtain ⟨c, hcj⟩ : ∃ c, ss[j]? = some c := ⟨ss[j]'(by rw [hMe.out]; exact hlt), List.getElem?_eq_getElem _⟩
      have hcs := List.mem_of_getElem? hcj
      have hch := hV.out.2 c ((hsm.out c).1 hcs)
      have cc := hx.out.keep (hcl j (Vu c) (by rw [List.getElem?_map, hcj]; rfl))
      obtain ⟨c9, hlk, hat, _⟩ := (hM3.out.ext hx.out).lookup_int keyedU Try.underlying44 Try.underlying28 (zeroU wr) (keyU (c := c) (by omega) (by omega))
      have hat2 := hV.out.1 c (by omega) (by omega)
      rw [if_pos ((hsm.out c).1 hcs), hat] at hat2
      simp only [DataW.lit.injEq, Lit.int.injEq, true_and] at hat2
      subst hat2
      obtain ⟨k, hk⟩ : ∃ k, nextOf V c = k := ⟨_, rfl⟩
      rw [hk] at hlk
      have hsn := Lib.hid (show sinceV V (ss.take (j + 1)) = sinceV V (ss.take j) ++ [(c, k)] by
        rw [List.take_add_one, hcj, ← hk]
        unfold sinceV
        rw [List.map_append]; rfl)
      have hle := Lib.hid (show (sinceV V (ss.take j)).length + [((c, k) : Int × Int)].length ≤ 3000 by
        unfold sinceV
        rw [List.length_map, List.length_take, List.length_singleton]
        have := hMe.out
        omega)
      subst eA
      have hltH := Lib.hid hlt
      have hj0 : (0 : Int) ≤ (j : Int) := by omega
      have hj1 : (j : Int) < (M : Int) := by omega
      have hj2 : (j : Int) < 900 := by omega
      clear hcl hcj hcs hch hat hk
      go_wp2_with (at_builtin; refine wpList_append_C (w0 := w3) rfl (.tmp 15) (.tmp 22) rfl _ (sinceV V (ss.take j)) rfl (OwnC.ext ho.out ((Ext.refl wr).alloc _)) (hx.out.alloc _) _ 1 1 [(c, k)] rfl rfl (Vec.new wr c k) hle.out ?_; intro v9 w9 o9 x9; replace o9 := Lib.hid o9; replace x9 := Lib.hid x9)
      go_roundw
      case rel =>
        refine ⟨j + 1, hltH.out, by go_num, Lib.hid ?_, x9⟩
        rw [hsn.out]
        exact o9.out
      case measure => have := hltH.out; simp [intOf]; omega
    · have hje : j = M := by omega
      have hall : ss.take j = ss := List.take_of_length_le (by rw [hMe.out]; omega)
      have ho' := ho.out
      rw [hall] at ho'
      obtain ⟨A2, c2, e2, hv2, hc2⟩ := Vec.own2 ho'
      have hl2 : (sinceV V ss).length = M := by unfold sinceV; rw [List.length_map]; exact hMe.out
      rw [hl2] at e2 hc2
      have hmg := Lib.hid (merge_room A A2 n M cap c2 V0 (sinceV V ss) wr (hv3.out.ext hx.out) hv2 hn.out hl2 hnc hc2 (by omega))
      have heq := Lib.hid (merge_since hV.out h0 hm hwf.out hw0.out hsp.out hsm.out)
      have hx9 := Lib.hid (x03.out.trans hx.out)
      clear hall ho' hl2 ho
      subst e2
      go_wp2_with fail
      refine hmg.out.mono ?_
      rintro e w9 ⟨A9, n9, c9, rfl, hn9, hv9, x9, hc9⟩
      rw [heq.out] at hn9 hv9
      replace hn9 := Lib.hid hn9
      go_wp2_with fail
      go_ret
      exact ⟨A9, n9, c9, rfl, hn9.out, hv9, hx9.out.trans x9, hc9⟩

end Go.Proofs.Ytdpmhhfpjpdfiaa

namespace Go.Proofs.Ytdpmhhfpjpdfiaa
open Go.ChangeShapes Go.WideShapes Go.ChangeAt Go.RowKit Go.Sort
set_option linter.unusedVariables false
set_option linter.unusedSimpArgs false
attribute [local go_sem] World.cell?_alloc_some

end Go.Proofs.Ytdpmhhfpjpdfiaa

namespace Go.Proofs.Ytdpmhhfpjpdfiaa
open Go.ChangeShapes Go.WideShapes Go.ChangeAt Go.RowKit Go.Sort
set_option linter.unusedVariables false
set_option linter.unusedSimpArgs false
attribute [local go_sem] World.cell?_alloc_some

theorem OwnI.box {w0 W : World} {q : Nat} {x : It} (h : BoxI W q x) (hq : w0.heap.size ≤ q) : OwnI w0 W (.slice (some ⟨q, 0, none⟩) 1 1) [x] :=
  ⟨by simp [flat, encI], .inr ⟨q, 1, _, rfl, hq, h, Nat.le_refl _, by unfold maxLen; omega, by simp, by simp [flat, encI]⟩⟩

theorem OwnI.zero {w0 W : World} {q : Nat} (h : W.heap[q]? = some (.cells #[] 32 (0, 0))) (hq : w0.heap.size ≤ q) : OwnI w0 W (.slice (some ⟨q, 0, none⟩) 0 0) [] :=
  ⟨by simp [flat], .inr ⟨q, 0, #[], rfl, hq, h, Nat.le_refl _, by unfold maxLen; omega, by simp, by simp [flat]⟩⟩

theorem appendP_base {P : Program} (w : World) (t ty e : TypeId) (i : TypeInfo) (ht : P.underlying t = some (.slice e)) (hi : P.info? e = some i) (base : Option Addr) (A : Option Addr) (m c : Nat) (hm : 0 < m)
    (hfit : Builtin.nextslicecap m 0 * i.bytes ≤ 281474976710656) (h63 : (m : Int) ≤ 9223372036854775807) :
    (Builtin.append_ #[t, t] ty #[.slice base 0 0, .slice A m c]).run P w = (Builtin.append_ #[t, t] ty #[.slice none 0 0, .slice A m c]).run P w := by
  have h48' : ¬ (281474976710656 < Builtin.nextslicecap m 0 * i.bytes) := by omega
  have h63' : ¬ (9223372036854775807 < (m : Int)) := by omega
  have hm0 : ¬ (m ≤ 0) := by omega
  have hm1 : ¬ (m = 0) := by omega
  cases base with
  | none => rfl
  | some a =>
    simp [Builtin.append_, run_underlying ht, sizeOf, typeInfo, hi, Builtin.lenOf, hm1, h48', h63', Builtin.firstCells, loadCells, loadCellsFrom]
theorem run_append_P0 (w0 w : World) (ty : TypeId) (q : Nat) (l : List It) (A : Option Addr) (m c : Nat) (hm : l.length = m) (hr : ItS w A l) (hx : Ext w0 w) (hb : m ≤ 5026338869833) (hq : w0.heap.size ≤ q) (hqc : w.heap[q]? = some (.cells #[] 32 (0, 0))) :
    ∃ v' w', (Builtin.append_ #[23, 23] ty #[.slice (some ⟨q, 0, none⟩) 0 0, .slice A m c]).run Try.prog w = .ok v' w' ∧ OwnI w0 w' v' l ∧ Ext w w' := by
  obtain ⟨i, hi, hz0, hz1, hz2⟩ := info_parts infoI
  subst hm
  obtain ⟨v', w', hrun, h2, h3, h4⟩ := run_append_rowB (P := Try.prog) w w0.heap.size 23 ty 32 i _ 7 28 Try.underlying23 hi hz0 hz1 hz2 rfl (by omega) (.slice none 0 0) 0 [] (World.ownsRow_nil w _ _ _) A l.length c _ (flat_len encI_len l) hr (flat_one_cell encI_one l)
    (by unfold maxLen; omega) (by omega) hx.size
  rcases Nat.eq_zero_or_pos l.length with h0 | h0
  · obtain rfl : l = [] := List.eq_nil_of_length_eq_zero h0
    refine ⟨.slice (some ⟨q, 0, none⟩) 0 0, w, ?_, ⟨by simp [flat], .inr ⟨q, 0, #[], rfl, hq, hqc, Nat.le_refl _, by unfold maxLen; omega, by simp, by simp [flat]⟩⟩, Ext.refl _⟩
    cases A <;> simp [Builtin.append_, run_underlying Try.underlying23, sizeOf, typeInfo, hi, Builtin.lenOf, Builtin.firstCells, storeCells, loadCells, loadCellsFrom]
  · refine ⟨v', w', ?_, ?_, ?_⟩
    · rw [appendP_base w _ _ _ i Try.underlying23 hi _ A l.length c h0 ?_ (by omega)]
      · exact hrun
      · rw [hz2]
        have : Builtin.nextslicecap l.length 0 ≤ l.length := by
          unfold Builtin.nextslicecap
          rw [if_pos (by omega)]
          omega
        omega
    · unfold OwnI OwnG
      have := h2
      rw [Nat.zero_add, List.nil_append] at this
      exact this
    · exact Ext.grown (Ext.refl w) (v := .slice none 0 0) h3 (fun k hk => by cases hk)

end Go.Proofs.Ytdpmhhfpjpdfiaa

namespace Go.Proofs.Ytdpmhhfpjpdfiaa
open Go.ChangeShapes Go.WideShapes Go.ChangeAt Go.RowKit Go.Sort
set_option linter.unusedVariables false
set_option linter.unusedSimpArgs false
attribute [local go_sem] World.cell?_alloc_some

end Go.Proofs.Ytdpmhhfpjpdfiaa
