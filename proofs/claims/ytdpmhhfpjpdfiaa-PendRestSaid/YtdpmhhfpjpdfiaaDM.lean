/-
  Several texts of this seat in one file, each in the namespace again; no claim stands here.
-/
import Derived.Maps.OwnSet
import Derived.Maps.OwnOps
import Derived.Maps.Views
import Derived.Deep.QuietTactic
import Derived.Deep.LoopGhost
import Derived.RegionTactic
import Derived.IntWalk
import Derived.BigQuiet
import Derived.Deep.DeepCutAuto
import Derived.Deep.CutBlock
import Derived.Test.YtdpmhhfpjpdfiaaDL
import Derived.Test.YtdpmhhfpjpdfiaaVMath
import Derived.Test.YtdpmhhfpjpdfiaaPdM
namespace Go.Proofs.Ytdpmhhfpjpdfiaa
open Go.ChangeShapes Go.WideShapes Go.ChangeAt Go.RowKit Go.Sort
set_option linter.unusedVariables false
set_option linter.unusedSimpArgs false

set_option maxRecDepth 100000 in
set_option maxHeartbeats 4000000 in
theorem down_any (w0 : World) (T o blk N cap i0 n : Nat) (d : Array Int) (w : World) (R : RoI w0 blk N) (hT : w0.cell? ⟨T, o, none⟩ = some (.slice (some ⟨blk, 0, none⟩) N cap)) (hne : T ≠ blk) (S : SWi w0 blk N d w) (hi : i0 ≤ n) (hn : n ≤ N) (hN : N ≤ 1000000) :
    Calls Try.prog 42 #[.iface 68 (.pointer (some ⟨T, o, none⟩)), .int .i64 i0, .int .i64 n] w fun e w' => (∃ b : Bool, e = .returned (.bool b)) ∧ SWi w0 blk N (siftDown gtI n 0 i0 d) w' := by
  replace S := Lib.hid S
  replace hT := Lib.hid hT
  have eL := entLess
  have eS := entSwap
  go_enter Try.func42, Try.ntmps42
  go_wp2_with fail
  go_loopw [7] (fun vi wr => ∃ (k : Nat) (dk : Array Int), vi = .int .i64 k ∧ k ≤ n ∧ Hid (SWi w0 blk N dk wr) ∧ Hid (siftDown gtI n 0 k dk = siftDown gtI n 0 i0 d)) (fun vi _ => n - (intOf vi).toNat)
  case atStart => exact ⟨i0, d, rfl, hi, S, Lib.hid rfl⟩
  case round =>
    clear S
    obtain ⟨k, dk, rfl, hk, S1, HO⟩ := hrel
    obtain ⟨m1, m2, m3⟩ := meth_at wr _ _ _ _ (S1.out.other hne hT.out)
    obtain ⟨c1, hc1⟩ : ∃ c : Nat, 2 * (k : Int) + 1 = (c : Int) := ⟨2 * k + 1, by omega⟩
    have e1 : Hid (c1 = 2 * k + 1) := Lib.hid (by omega)
    by_cases h0 : n ≤ c1
    · have HO2 := Lib.hid (show dk = siftDown gtI n 0 i0 d by rw [← HO.out, sd_end gtI dk (by have := e1.out; omega)])
      have hz : (n : Int) ≤ (c1 : Int) := by omega
      go_wp2_with fail
      go_ret
      exact ⟨⟨_, rfl⟩, by rw [← HO2.out]; exact S1.out⟩
    · have hz : ¬ (n : Int) ≤ (c1 : Int) := by omega
      have hz0 : ¬ (c1 : Int) < 0 := by omega
      obtain ⟨c2, hc2⟩ : ∃ c : Nat, (c1 : Int) + 1 = (c : Int) := ⟨c1 + 1, by omega⟩
      have e2 : Hid (c2 = 2 * k + 2) := Lib.hid (by have := e1.out; omega)
      by_cases h1 : c2 < n
      · have hz2 : (c2 : Int) < (n : Int) := by omega
        have hls := Lib.hid (numLess_any w0 blk N cap c2 c1 dk wr R S1.out (by omega) (by omega))
        have hF : gtI dk[0 + (2 * k + 1)]! dk[0 + (2 * k + 2)]! = ltInt dk[c2]! dk[c1]! := by rw [show 0 + (2 * k + 1) = c1 by have := e1.out; omega, show 0 + (2 * k + 2) = c2 by have := e2.out; omega]; rfl
        cases hl : ltInt dk[c2]! dk[c1]! with
        | true =>
          rw [hl] at hls hF
          replace hF := Lib.hid hF
          clear hl
          go_wp2_with (first | (refine hls.out.mono ?_; clear hls; rintro e w2 ⟨rfl, S2⟩; obtain ⟨m4, m5, m6⟩ := meth_at w2 _ _ _ _ (S2.other hne hT.out); replace S2 := Lib.hid S2))
          clear m1 m2 m3
          have hls2 := Lib.hid (numLess_any w0 blk N cap c2 k dk w2 R S2.out (by have := e1.out; have := e2.out; omega) (by omega))
          cases hl2 : ltInt dk[c2]! dk[k]! with
          | true =>
            rw [hl2] at hls2
            have hG : gtI dk[0 + k]! dk[0 + (2 * k + 2)]! = true := by rw [show 0 + k = k by omega, show 0 + (2 * k + 2) = c2 by have := e1.out; have := e2.out; omega]; exact hl2
            have HO2 := Lib.hid (show siftDown gtI n 0 (2 * k + 2) (swp dk (0 + k) (0 + (2 * k + 2))) = siftDown gtI n 0 i0 d by rw [← HO.out, sd_right_go gtI dk (by have := e2.out; omega) hF.out hG])
            clear hG hl2
            refine hls2.out.mono ?_
            rintro e w8 ⟨rfl, S8⟩
            obtain ⟨m7, m8, m9⟩ := meth_at w8 _ _ _ _ (S8.other hne hT.out)
            replace S8 := Lib.hid S8
            clear m4 m5 m6
            go_wp2_with fail
            refine (numSwap_any w0 blk N cap k c2 dk w8 R S8.out (by omega) (by have := e1.out; have := e2.out; omega)).mono ?_
            rintro e w9 ⟨rfl, S9⟩
            replace S9 := Lib.hid S9
            go_wp2_with fail
            go_roundw
            case rel => exact ⟨c2, swp dk k c2, rfl, by have := e1.out; have := e2.out; omega, S9, Lib.hid (by rw [← HO2.out, show 0 + k = k by omega, show 0 + (2 * k + 2) = c2 by have := e1.out; have := e2.out; omega, show 2 * k + 2 = c2 by have := e1.out; have := e2.out; omega])⟩
            case measure => simp [intOf]; have := e1.out; have := e2.out; omega
          | false =>
            rw [hl2] at hls2
            have hG : gtI dk[0 + k]! dk[0 + (2 * k + 2)]! = false := by rw [show 0 + k = k by omega, show 0 + (2 * k + 2) = c2 by have := e1.out; have := e2.out; omega]; exact hl2
            have HO2 := Lib.hid (show dk = siftDown gtI n 0 i0 d by rw [← HO.out, sd_right_stop gtI dk (by have := e2.out; omega) hF.out hG])
            clear hG hl2
            refine hls2.out.mono ?_
            rintro e w8 ⟨rfl, S8⟩
            replace S8 := Lib.hid S8
            go_wp2_with fail
            go_ret
            exact ⟨⟨_, rfl⟩, by rw [← HO2.out]; exact S8.out⟩
        | false =>
          rw [hl] at hls hF
          replace hF := Lib.hid hF
          clear hl
          go_wp2_with (first | (refine hls.out.mono ?_; clear hls; rintro e w2 ⟨rfl, S2⟩; obtain ⟨m4, m5, m6⟩ := meth_at w2 _ _ _ _ (S2.other hne hT.out); replace S2 := Lib.hid S2))
          clear m1 m2 m3
          have hls2 := Lib.hid (numLess_any w0 blk N cap c1 k dk w2 R S2.out (by have := e1.out; have := e2.out; omega) (by omega))
          cases hl2 : ltInt dk[c1]! dk[k]! with
          | true =>
            rw [hl2] at hls2
            have hG : gtI dk[0 + k]! dk[0 + (2 * k + 1)]! = true := by rw [show 0 + k = k by omega, show 0 + (2 * k + 1) = c1 by have := e1.out; have := e2.out; omega]; exact hl2
            have HO2 := Lib.hid (show siftDown gtI n 0 (2 * k + 1) (swp dk (0 + k) (0 + (2 * k + 1))) = siftDown gtI n 0 i0 d by rw [← HO.out, sd_left_go gtI dk (by have := e1.out; omega) (fun _ => hF.out) hG])
            clear hG hl2
            refine hls2.out.mono ?_
            rintro e w8 ⟨rfl, S8⟩
            obtain ⟨m7, m8, m9⟩ := meth_at w8 _ _ _ _ (S8.other hne hT.out)
            replace S8 := Lib.hid S8
            clear m4 m5 m6
            go_wp2_with fail
            refine (numSwap_any w0 blk N cap k c1 dk w8 R S8.out (by omega) (by have := e1.out; have := e2.out; omega)).mono ?_
            rintro e w9 ⟨rfl, S9⟩
            replace S9 := Lib.hid S9
            go_wp2_with fail
            go_roundw
            case rel => exact ⟨c1, swp dk k c1, rfl, by have := e1.out; have := e2.out; omega, S9, Lib.hid (by rw [← HO2.out, show 0 + k = k by omega, show 0 + (2 * k + 1) = c1 by have := e1.out; have := e2.out; omega, show 2 * k + 1 = c1 by have := e1.out; have := e2.out; omega])⟩
            case measure => simp [intOf]; have := e1.out; have := e2.out; omega
          | false =>
            rw [hl2] at hls2
            have hG : gtI dk[0 + k]! dk[0 + (2 * k + 1)]! = false := by rw [show 0 + k = k by omega, show 0 + (2 * k + 1) = c1 by have := e1.out; have := e2.out; omega]; exact hl2
            have HO2 := Lib.hid (show dk = siftDown gtI n 0 i0 d by rw [← HO.out, sd_left_stop gtI dk (by have := e1.out; omega) (fun _ => hF.out) hG])
            clear hG hl2
            refine hls2.out.mono ?_
            rintro e w8 ⟨rfl, S8⟩
            replace S8 := Lib.hid S8
            go_wp2_with fail
            go_ret
            exact ⟨⟨_, rfl⟩, by rw [← HO2.out]; exact S8.out⟩
      · have hz2 : ¬ (c2 : Int) < (n : Int) := by omega
        have hls2 := Lib.hid (numLess_any w0 blk N cap c1 k dk wr R S1.out (by have := e1.out; have := e2.out; omega) (by omega))
        cases hl2 : ltInt dk[c1]! dk[k]! with
        | true =>
          rw [hl2] at hls2
          have hG : gtI dk[0 + k]! dk[0 + (2 * k + 1)]! = true := by rw [show 0 + k = k by omega, show 0 + (2 * k + 1) = c1 by have := e1.out; have := e2.out; omega]; exact hl2
          have HO2 := Lib.hid (show siftDown gtI n 0 (2 * k + 1) (swp dk (0 + k) (0 + (2 * k + 1))) = siftDown gtI n 0 i0 d by rw [← HO.out, sd_left_go gtI dk (by have := e1.out; omega) (fun h => absurd h (by have := e2.out; omega)) hG])
          clear hG hl2
          go_wp2_with fail
          refine hls2.out.mono ?_
          rintro e w8 ⟨rfl, S8⟩
          obtain ⟨m7, m8, m9⟩ := meth_at w8 _ _ _ _ (S8.other hne hT.out)
          replace S8 := Lib.hid S8
          clear m1 m2 m3
          go_wp2_with fail
          refine (numSwap_any w0 blk N cap k c1 dk w8 R S8.out (by omega) (by have := e1.out; have := e2.out; omega)).mono ?_
          rintro e w9 ⟨rfl, S9⟩
          replace S9 := Lib.hid S9
          go_wp2_with fail
          go_roundw
          case rel => exact ⟨c1, swp dk k c1, rfl, by have := e1.out; have := e2.out; omega, S9, Lib.hid (by rw [← HO2.out, show 0 + k = k by omega, show 0 + (2 * k + 1) = c1 by have := e1.out; have := e2.out; omega, show 2 * k + 1 = c1 by have := e1.out; have := e2.out; omega])⟩
          case measure => simp [intOf]; have := e1.out; have := e2.out; omega
        | false =>
          rw [hl2] at hls2
          have hG : gtI dk[0 + k]! dk[0 + (2 * k + 1)]! = false := by rw [show 0 + k = k by omega, show 0 + (2 * k + 1) = c1 by have := e1.out; have := e2.out; omega]; exact hl2
          have HO2 := Lib.hid (show dk = siftDown gtI n 0 i0 d by rw [← HO.out, sd_left_stop gtI dk (by have := e1.out; omega) (fun h => absurd h (by have := e2.out; omega)) hG])
          clear hG hl2
          go_wp2_with fail
          refine hls2.out.mono ?_
          rintro e w8 ⟨rfl, S8⟩
          replace S8 := Lib.hid S8
          go_wp2_with fail
          go_ret
          exact ⟨⟨_, rfl⟩, by rw [← HO2.out]; exact S8.out⟩

end Go.Proofs.Ytdpmhhfpjpdfiaa

namespace Go.Proofs.Ytdpmhhfpjpdfiaa
open Go.ChangeShapes Go.WideShapes Go.ChangeAt Go.RowKit Go.Sort
set_option linter.unusedVariables false
set_option linter.unusedSimpArgs false

def TB (W : World) (T : Nat) (cs : Array Value) : Prop := W.heap[T]? = some (.cells cs 55 (0, 0))
theorem TB.lt {W : World} {T : Nat} {cs : Array Value} (h : TB W T cs) : T < W.heap.size := (Array.getElem?_eq_some_iff.1 h).1
theorem TB.cell {W : World} {T : Nat} {cs : Array Value} (h : TB W T cs) {k : Nat} {v : Value} (hk : cs[k]? = some v) : W.cell? ⟨T, k, none⟩ = some v := by
  have h' : W.heap[T]? = some (.cells cs 55 (0, 0)) := h
  simp [World.cell?, h', hk]
theorem TB.thaw {W : World} {T : Nat} {cs : Array Value} (h : TB W T cs) (k : Nat) : W.frozen? ⟨T, k, none⟩ = false := by
  have h' : W.heap[T]? = some (.cells cs 55 (0, 0)) := h
  simp [World.frozen?, h']
theorem TB.set {W : World} {T : Nat} {cs : Array Value} (h : TB W T cs) (k : Nat) (v : Value) : TB (W.setCell ⟨T, k, none⟩ v) T (cs.setIfInBounds k v) := by
  have h' : W.heap[T]? = some (.cells cs 55 (0, 0)) := h
  unfold TB
  rw [setCell_eq]
  simp [mapBlock, Array.getElem?_modify, h', onCells]
theorem TB.of {W W' : World} {T : Nat} {cs : Array Value} (h : TB W T cs) (e : W'.heap[T]? = W.heap[T]?) : TB W' T cs := e.trans h
theorem TB.ext {W W' : World} {T : Nat} {cs : Array Value} (h : TB W T cs) (hx : Ext W W') : TB W' T cs := h.of (RowKit.Below.block hx T h.lt)
theorem TB.ts {S : Nat → Prop} {W W' : World} {T : Nat} {cs : Array Value} (h : TB W T cs) (hx : TSb S W W') (hn : ¬ S T) : TB W' T cs := h.of (hx.block T h.lt hn)

theorem tsb_set (W : World) (T k : Nat) (v : Value) : TSb (fun b => b = T) W (W.setCell ⟨T, k, none⟩ v) := by
  refine ⟨rfl, rfl, rfl, by simp, fun j hj hn => ?_⟩
  rw [setCell_eq]
  simp only [mapBlock, Array.getElem?_modify]
  rw [if_neg (fun e => hn e.symm)]
theorem tsb_grown {W W' : World} {r : Option Nat} (h : W.grownBy W' r) : TSb (fun b => r = some b) W W' := ⟨h.os, h.tape, h.output, h.size, fun k hk hn => h.block k hk (fun e => hn e.symm)⟩
theorem tsb_mono {S T : Nat → Prop} {W W' : World} (h : TSb S W W') (hs : ∀ j, j < W.heap.size → S j → T j) : TSb T W W' := ⟨h.os, h.tape, h.output, h.size, fun k hk hn => h.block k hk fun e => hn (hs k hk e)⟩

theorem SWi.ts {W W' : World} {g N : Nat} {d : Array Int} (h : SWi W g N d W') : TSb (fun b => b = g) W W' := by
  obtain ⟨⟨n, os, rfl⟩, _⟩ := h
  refine ⟨rfl, rfl, rfl, ?_, fun j hj hn => ?_⟩
  · unfold sortWorld; rw [size_grow, size_putRow]; show W.heap.size ≤ W.heap.size + _; omega
  · unfold sortWorld
    rw [heap_grow_old _ _ (by rw [size_putRow]; exact hj)]
    unfold putRow mapBlock
    show (W.heap.modify g _)[j]? = W.heap[j]?
    rw [Array.getElem?_modify, if_neg (fun e => hn e.symm)]
theorem OwnZ.holds {w0 W : World} {g n cap : Nat} {l : List Int} (h : OwnZ w0 W (.slice (some ⟨g, 0, none⟩) n cap) l) (hn : l.length = n) : RoI W g n ∧ SWi W g n l.toArray W ∧ w0.heap.size ≤ g := by
  subst hn
  rcases h.2 with ⟨h0, _⟩ | ⟨g', cap', cur, e, hbase, hgb, r1, r2, r3, r4⟩
  · cases h0
  · injection e with e1 e2 e3
    injection e1 with e1
    injection e1 with e1
    subst e1
    subst e3
    have hH : Holds Vi W g 0 l.toArray := by
      intro j hj
      have hj' : j < l.length := by simpa using hj
      refine ⟨?_, by simp [World.frozen?, hgb]⟩
      have h1 : (cur.toList.take (l.length * 1))[j]? = (l.map Vi)[j]? := by rw [r4]
      rw [List.getElem?_take_of_lt (by omega)] at h1
      simp only [World.cell?, hgb, Nat.zero_add]
      simp only [Option.isSome_none, Bool.false_eq_true, if_false]
      rw [← Array.getElem?_toList, h1]
      simp [hj']
    have hg1 : g < W.heap.size := (Array.getElem?_eq_some_iff.1 hgb).1
    exact ⟨⟨⟨_, hH, by simp⟩, hg1⟩, ⟨SW.start hH, by simp⟩, hbase⟩
theorem take_putCells (d : Array Int) (c : Array Value) (h : d.size ≤ c.size) : (putCells Vi 0 d c).toList.take d.size = d.toList.map Vi := by
  apply List.ext_getElem?
  intro j
  rw [List.getElem?_take, List.getElem?_map]
  by_cases hj : j < d.size
  · rw [if_pos hj, Array.getElem?_toList, Array.getElem?_toList]
    simp only [putCells, Array.getElem?_mapIdx]
    rw [Array.getElem?_eq_getElem (show j < c.size by omega), Array.getElem?_eq_getElem hj]
    simp [hj]
  · rw [if_neg hj, Array.getElem?_toList, Array.getElem?_eq_none (by omega)]
    rfl
theorem OwnZ.turned {w0 W W' : World} {g n cap : Nat} {l : List Int} {d : Array Int} (h : OwnZ w0 W (.slice (some ⟨g, 0, none⟩) n cap) l) (hn : l.length = n) (S : SWi W g n d W') : OwnZ w0 W' (.slice (some ⟨g, 0, none⟩) n cap) d.toList := by
  subst hn
  obtain ⟨⟨q, os, rfl⟩, hs⟩ := S
  rcases h.2 with ⟨h0, _⟩ | ⟨g', cap', cur, e, hbase, hgb, r1, r2, r3, r4⟩
  · cases h0
  · injection e with e1 e2 e3
    injection e1 with e1
    injection e1 with e1
    subst e1
    subst e3
    have hg1 : g < W.heap.size := (Array.getElem?_eq_some_iff.1 hgb).1
    have hb : (sortWorld Vi W g 0 q d os).heap[g]? = some (.cells (putCells Vi 0 d cur) 3 (0, 0)) := by
      unfold sortWorld
      rw [heap_grow_old _ _ (by rw [size_putRow]; exact hg1)]
      simp [putRow, mapBlock, Sort.ahead, Array.getElem?_modify, hgb, onCells]
    refine ⟨by simp, .inr ⟨g, cap, _, by simp [hs], hbase, hb, by simpa [hs] using r1, r2, by simp [putCells, r3], ?_⟩⟩
    have := take_putCells d cur (by rw [r3, hs]; omega)
    simpa using this
theorem OwnZ.ts {S : Nat → Prop} {w0 W W' : World} {v : Value} {l : List Int} (h : OwnZ w0 W v l) (hx : TSb S W W') (hn : ∀ g, v.ownBlock = some g → ¬ S g) : OwnZ w0 W' v l := by
  refine ⟨h.1, ?_⟩
  rcases h.2 with h0 | ⟨g, cap, cur, e, hbase, hgb, r⟩
  · exact .inl h0
  · exact .inr ⟨g, cap, cur, e, hbase, (hx.block g (Array.getElem?_eq_some_iff.1 hgb).1 (hn g (by rw [e]; rfl))).trans hgb, r⟩

end Go.Proofs.Ytdpmhhfpjpdfiaa

namespace Go.Proofs.Ytdpmhhfpjpdfiaa
open Go.ChangeShapes Go.WideShapes Go.ChangeAt Go.RowKit Go.Sort
set_option linter.unusedVariables false
set_option linter.unusedSimpArgs false
attribute [local go_sem] World.cell?_alloc_some

theorem wpList_append_ZT {w0 w : World} {ops : Array Oper} {rest : List Oper} {o : Oper} {a : Act} {Q : Exit → Act → World → Prop} (hgd : o.guard = none) (s x : Operand) (t : TypeId) (ht : Try.prog.underlying t = some (.slice 3))
    (ho : o.op = .call { callee := .builtin .append, args := #[s, x], argTypes := #[t, t] })
    (v : Value) (l : List Int) (hs : a.eval s = v) (hown : OwnZ w0 w v l) (hx : w0.heap.size ≤ w.heap.size)
    (A : Option Addr) (m c : Nat) (r : List Int) (he : a.eval x = .slice A m c) (hm : r.length = m) (hr : ZS w A r) (hb : l.length + r.length ≤ 17000000000000)
    (h : ∀ v' w', OwnZ w0 w' v' (l ++ r) → w.grownBy w' v.ownBlock → (v'.ownBlock = v.ownBlock ∨ v'.ownBlock = some w.heap.size) → wpList Try.prog ops Q rest (a.put o.dst v') w') : wpList Try.prog ops Q (o :: rest) a w := by
  refine wpList_plain hgd fun K hK => ?_
  obtain ⟨i, hi, hz0, hz1, hz2⟩ := info_parts infoZ
  subst hm
  obtain ⟨v', w', hrun, h2, h3, h4⟩ := run_append_rowB (P := Try.prog) w w0.heap.size t o.type 3 i _ 1 8 ht hi hz0 hz1 hz2 rfl (by omega) v l.length _ hown A r.length c (r.map Vi) (by rw [List.length_map, Nat.mul_one]) hr (map_Vi_one r)
    (by unfold maxLen; omega) (by omega) hx
  have h2' : OwnZ w0 w' v' (l ++ r) := by
    unfold OwnZ OwnG
    rw [List.map_append, List.length_append]
    exact h2
  unfold Oper.wp execOp
  simp only [ho, resolve, invoke, builtin, Sem.run_bind, Sem.run_pure, Result.andThen_ok, List.map_toArray, List.map_cons, List.map_nil, hs, he, hrun]
  exact hK _ _ (h v' w' h2' h3 h4)

def NewB (W : World) (v v' : Value) : Prop := v'.ownBlock = v.ownBlock ∨ ∃ q, v'.ownBlock = some q ∧ W.heap.size ≤ q
structure HpS (w0 W : World) (T : Nat) (cs : Array Value) (v : Value) (l : List Int) : Prop where
  tb : TB W T cs
  at5 : cs[5]? = some v
  own : OwnZ w0 W v l
  ne : v.ownBlock ≠ some T
  base : w0.heap.size ≤ W.heap.size

theorem asInt_run (x : Int) (W : World) : (Instr.typeAssert (.iface 3 (.int .i64 x)) 20 3 true).run Try.prog W = .ok (.tuple #[.int .i64 x, .bool true]) W := by kernel_rfl

set_option maxRecDepth 100000 in
set_option maxHeartbeats 1000000 in
theorem numPush_any (w0 W : World) (T : Nat) (cs : Array Value) (v : Value) (l : List Int) (x : Int) (h : HpS w0 W T cs v l) (hb : l.length ≤ 1000000) :
    Calls Try.prog 104 #[.pointer (some ⟨T, 5, none⟩), .iface 3 (.int .i64 x)] W fun e W' => e = .returned (.tuple #[]) ∧ ∃ v', HpS w0 W' T (cs.setIfInBounds 5 v') v' (l ++ [x]) ∧ NewB W v v' ∧ TSb (fun b => b = T ∨ v.ownBlock = some b) W W' := by
  obtain ⟨A, c, rfl, hc, hZ⟩ := h.own.open
  have c5 := h.tb.cell h.at5
  have f5 := h.tb.thaw 5
  replace h := Lib.hid h
  have ha := asInt_run x W
  go_enter Try.func104, Try.ntmps104
  go_wp2_with (first
    | (at_builtin
       refine wpList_append_ZT (w0 := w0) rfl (.tmp 15) (.tmp 17) 52 Try.underlying52 rfl _ l rfl (h.out.own.ext ((Ext.refl W).alloc _)) (by have := h.out.base; simp; omega) _ 1 1 [x] rfl rfl (ZS.new W x) (by simp; omega) ?_
       intro v2 w2 o2 g2 n2
       obtain ⟨A2, c2, rfl, hc2, hZ2⟩ := o2.open
       have hT2 : w2.heap[T]? = W.heap[T]? := (g2.block T (by have := h.out.tb.lt; simp; omega) (fun e => h.out.ne e.symm)).trans (RowKit.Below.block (w' := W.alloc (.cells #[.int .i64 x] 3)) ((Ext.refl W).alloc _) T h.out.tb.lt)
       have t2 : TB w2 T cs := h.out.tb.of hT2
       have d5 := t2.cell h.out.at5
       have k5 := t2.thaw 5))
  go_end0
  have hg : TSb (fun b => b = T ∨ (Value.slice A l.length c).ownBlock = some b) W w2 :=
    ((TSb.ext (S := fun b => b = T ∨ (Value.slice A l.length c).ownBlock = some b) (((Ext.refl W).alloc _))).trans (tsb_grown g2) (fun j hj e => Or.inr e))
  have hnT : (Value.slice A2 (l ++ [x]).length c2).ownBlock ≠ some T := fun e => by
    rcases n2 with n2 | n2
    · rw [n2] at e; exact h.out.ne e
    · rw [n2] at e
      injection e with e
      have := h.out.tb.lt
      simp at e
      omega
  have hlen : (l ++ [x]).length = l.length + 1 := by simp
  rw [hlen] at hnT n2 o2
  refine ⟨rfl, _, ⟨t2.set 5 _, ?_, o2.ts (tsb_set w2 T 5 _) (fun g e e' => hnT (by rw [e, e'])), hnT, by have := h.out.base; have := hg.size; simp; omega⟩, ?_, hg.trans (tsb_set w2 T 5 _) (fun j hj e => Or.inl e)⟩
  · have h5 := h.out.at5
    have : 5 < cs.size := (Array.getElem?_eq_some_iff.1 h5).1
    rw [Array.getElem?_setIfInBounds_self, if_pos this]
  · rcases n2 with n2 | n2
    · exact .inl n2
    · exact .inr ⟨_, n2, by simp⟩

theorem HpS.slice {w0 W : World} {T : Nat} {cs : Array Value} {v : Value} {l : List Int} (h : HpS w0 W T cs v l) (hl : l ≠ []) : ∃ g c, v = .slice (some ⟨g, 0, none⟩) l.length c ∧ g ≠ T ∧ w0.heap.size ≤ g ∧ g < W.heap.size := by
  rcases h.own.2 with ⟨_, h0⟩ | ⟨g, cap, cur, e, hbase, hgb, _⟩
  · exact absurd (List.eq_nil_of_length_eq_zero h0) hl
  · exact ⟨g, cap, e, fun e' => h.ne (by rw [e, e']; rfl), hbase, (Array.getElem?_eq_some_iff.1 hgb).1⟩
theorem HpS.turned {w0 W W' : World} {T g c n : Nat} {cs : Array Value} {l : List Int} {d : Array Int} (h : HpS w0 W T cs (.slice (some ⟨g, 0, none⟩) n c) l) (hn : l.length = n) (hne : g ≠ T) (S : SWi W g n d W') : HpS w0 W' T cs (.slice (some ⟨g, 0, none⟩) n c) d.toList :=
  ⟨h.tb.ts S.ts (fun e => hne e.symm), h.at5, h.own.turned hn S, h.ne, Nat.le_trans h.base S.ts.size⟩

theorem numLen_any (A : Option Addr) (n c : Nat) (w : World) : Calls Try.prog 100 #[.slice A n c] w fun e w' => e = .returned (.int .i64 n) ∧ w = w' := by
  go_enter Try.func100, Try.ntmps100
  go_wp2
  go_ret
  exact ⟨rfl, rfl⟩

set_option maxRecDepth 100000 in
set_option maxHeartbeats 1000000 in
theorem push_any (w0 W : World) (T : Nat) (cs : Array Value) (v : Value) (l : List Int) (x : Int) (h : HpS w0 W T cs v l) (hb : l.length < 1000000) :
    Calls Try.prog 41 #[.iface 68 (.pointer (some ⟨T, 5, none⟩)), .iface 3 (.int .i64 x)] W fun e W' => e = .returned (.tuple #[]) ∧ ∃ v', HpS w0 W' T (cs.setIfInBounds 5 v') v' (upA l.length (l ++ [x]).toArray).toList ∧ NewB W v v' ∧ TSb (fun b => b = T ∨ v.ownBlock = some b) W W' := by
  have hp := Lib.hid (numPush_any w0 W T cs v l x h (by omega))
  obtain ⟨m1, m2⟩ := meth_own W (.pointer (some ⟨T, 5, none⟩))
  have eP := entPush
  have eN := entLen
  replace h := Lib.hid h
  go_enter Try.func41, Try.ntmps41
  go_wp2_with fail
  refine hp.out.mono ?_
  rintro e w1 ⟨rfl, v1, h1, n1, t1⟩
  obtain ⟨g, c, rfl, hgT, hgb, hgl⟩ := h1.slice (by simp)
  have hl1 : (l ++ [x]).length = l.length + 1 := by simp
  rw [hl1] at h1 n1
  obtain ⟨m3, m4, m5⟩ := meth_at w1 _ _ _ _ (h1.tb.cell h1.at5)
  replace h1 := Lib.hid h1
  replace n1 := Lib.hid n1
  replace t1 := Lib.hid t1
  go_wp2_with fail
  refine (numLen_any _ _ _ _).mono ?_
  rintro e w2 ⟨rfl, rfl⟩
  have z1 : ((l.length + 1 : Nat) : Int) - 1 = (l.length : Int) := by omega
  obtain ⟨R, S, _⟩ := h1.out.own.holds (n := l.length + 1) hl1
  have hup := Lib.hid (up_any w1 T 5 g (l.length + 1) c l.length (l ++ [x]).toArray w1 R (h1.out.tb.cell h1.out.at5) (fun e => hgT e.symm) S (by omega) (by omega))
  generalize l.length + 1 = n2 at *
  go_wp2_with fail
  refine hup.out.mono ?_
  rintro e w3 ⟨rfl, S3⟩
  replace S3 := Lib.hid S3
  go_wp2_with fail
  go_end0
  refine ⟨rfl, _, h1.out.turned hl1 hgT S3.out, n1.out, t1.out.trans S3.out.ts (fun j hj e => ?_)⟩
  rcases n1.out with n1 | ⟨q, n1, hq⟩
  · exact Or.inr (by rw [← n1, e]; rfl)
  · have : q = g := by have := n1; simp [Value.ownBlock] at this; exact this.symm
    omega

theorem uptoN (A : Option Addr) (n cap k : Nat) (h1 : k ≤ cap) (W : World) : (Instr.slice 52 (.slice A n cap) none (some (.int .i64 k)) none).run Try.prog W = .ok (.slice A k cap) W := by
  obtain ⟨i, hi, hz0, hz1, hz2⟩ := info_parts infoZ
  exact run_upto Try.underlying52 hi A n cap k W (by omega) (by omega)

set_option maxRecDepth 100000 in
set_option maxHeartbeats 1000000 in
theorem numPop_any (w0 W : World) (T g c n : Nat) (cs : Array Value) (l : List Int) (x : Int) (h : HpS w0 W T cs (.slice (some ⟨g, 0, none⟩) (n + 1) c) l) (hl : l.length = n + 1) (hb : l.length ≤ 1000000) (hx : l[n]? = some x) :
    Calls Try.prog 103 #[.pointer (some ⟨T, 5, none⟩)] W fun e W' => e = .returned (.iface 3 (.int .i64 x)) ∧ HpS w0 W' T (cs.setIfInBounds 5 (.slice (some ⟨g, 0, none⟩) n c)) (.slice (some ⟨g, 0, none⟩) n c) (l.take n) ∧ TSb (fun b => b = T) W W' := by
  have c5 := h.tb.cell h.at5
  have f5 := h.tb.thaw 5
  obtain ⟨A, c', e', hc, hZ⟩ := h.own.open
  injection e' with e1 e2 e3
  subst e3
  obtain ⟨b, o, eA, cx⟩ := hZ.at hx
  rw [← e1] at eA
  injection eA with eA
  injection eA with eb eo
  subst eb
  subst eo
  clear hZ e2
  subst e1
  have hsl := uptoN (some ⟨g, 0, none⟩) (n + 1) c n (by omega)
  have z1 : ((n + 1 : Nat) : Int) - 1 = (n : Int) := by omega
  have z2 : (n : Int) < ((n + 1 : Nat) : Int) := by omega
  have hne : (⟨T, 5, none⟩ : Addr) ≠ ⟨g, 0 + n, none⟩ := fun e => by injection e with e; exact h.ne (by rw [e]; rfl)
  replace h := Lib.hid h
  simp only [Nat.zero_add] at cx
  clear hne
  go_enter Try.func103, Try.ntmps103
  have hnb : n ≤ 1000000 := by omega
  generalize hn1 : n + 1 = n1 at *
  replace hn1 := Lib.hid hn1
  replace hl := Lib.hid hl
  go_wp2_with fail
  go_ret
  refine ⟨rfl, ⟨h.out.tb.set 5 _, ?_, ?_, h.out.ne, by have := h.out.base; simpa using this⟩, tsb_set W T 5 _⟩
  · have h5 := h.out.at5
    have : 5 < cs.size := (Array.getElem?_eq_some_iff.1 h5).1
    rw [Array.getElem?_setIfInBounds_self, if_pos this]
  · have ho := h.out.own.ts (tsb_set W T 5 (.slice (some ⟨g, 0, none⟩) n c)) (fun q e e' => h.out.ne (by rw [e, e']))
    rcases ho.2 with ⟨h0, _⟩ | ⟨g', cap, cur, e4, hbase, hgb, r1, r2, r3, r4⟩
    · cases h0
    · injection e4 with e5 e6 e7
      injection e5 with e5
      injection e5 with e5
      subst e5
      subst e7
      have hl' := hl.out
      have hn' := hn1.out
      refine ⟨by simp, .inr ⟨g, c, cur, by simp [List.length_take]; omega, hbase, hgb, by simp [List.length_take]; omega, r2, r3, ?_⟩⟩
      rw [List.length_take, List.map_take, ← r4, List.take_take]
      congr 1
      omega

set_option maxRecDepth 100000 in
set_option maxHeartbeats 2000000 in
theorem pop_any (w0 W : World) (T n : Nat) (cs : Array Value) (v : Value) (l : List Int) (h : HpS w0 W T cs v l) (hl : l.length = n + 1) (hb : l.length ≤ 1000000) (hp : HeapA (n + 1) l.toArray) (x : Int) (hx : l[0]? = some x) :
    Calls Try.prog 30 #[.iface 68 (.pointer (some ⟨T, 5, none⟩))] W fun e W' => e = .returned (.iface 3 (.int .i64 x)) ∧ ∃ v', HpS w0 W' T (cs.setIfInBounds 5 v') v' ((popA l.toArray).toList.take n) ∧ v'.ownBlock = v.ownBlock ∧ TSb (fun b => b = T ∨ v.ownBlock = some b) W W' := by
  obtain ⟨g, c, rfl, hgT, hgb, hgl⟩ := h.slice (by intro e; rw [e] at hl; cases hl)
  obtain ⟨p1, p2, p3, p4⟩ := pop_heap (d := l.toArray) (n := n) (by simpa using hl) hp
  have hpA : popA l.toArray = siftDown gtI n 0 0 (swp l.toArray 0 n) := by unfold popA; rw [show l.toArray.size - 1 = n by simp [hl]]
  have z1 : ((n + 1 : Nat) : Int) - 1 = (n : Int) := by omega
  clear p3 p4 hp
  have p2' : (popA l.toArray).size = n + 1 := p1
  obtain ⟨n1, hn1⟩ : ∃ n1, n + 1 = n1 := ⟨_, rfl⟩
  rw [hn1] at hl p1 z1
  rw [hl] at h
  obtain ⟨m1, m2, m3⟩ := meth_at W _ _ _ _ (h.tb.cell h.at5)
  obtain ⟨R, S, _⟩ := h.own.holds (n := n1) hl
  have eP := entPop
  have eN := entLen
  have eS := entSwap
  replace h := Lib.hid h
  replace p1 := Lib.hid p1
  replace p2 := Lib.hid p2
  replace hpA := Lib.hid hpA
  replace S := Lib.hid S
  replace hn1 := Lib.hid hn1
  go_enter Try.func30, Try.ntmps30
  go_wp2_with fail
  refine (numLen_any _ _ _ _).mono ?_
  rintro e w2 ⟨rfl, rfl⟩
  go_wp2_with fail
  refine (numSwap_any W g n1 c 0 n l.toArray W R S.out (by have := hn1.out; omega) (by have := hn1.out; omega)).mono ?_
  rintro e w3 ⟨rfl, S3⟩
  replace S3 := Lib.hid S3
  clear m1 m2 m3
  go_wp2_with fail
  refine (down_any W T 5 g n1 c 0 n (swp l.toArray 0 n) w3 R (h.out.tb.cell h.out.at5) (fun e => hgT e.symm) S3.out (by omega) (by have := hn1.out; omega) (by omega)).mono ?_
  rintro e w4 ⟨⟨bb, rfl⟩, S4⟩
  rw [← hpA.out] at S4
  replace S4 := Lib.hid S4
  obtain ⟨m4, m5⟩ := meth_own w4 (.pointer (some ⟨T, 5, none⟩))
  have h4 := h.out.turned hl hgT S4.out
  have hlen : (popA l.toArray).toList.length = n1 := by simpa using p1.out
  have hx0 : l.toArray[0]! = x := by
    have hl0 := (List.getElem?_eq_some_iff.1 hx).1
    have hl1 := (List.getElem?_eq_some_iff.1 hx).2
    rw [getElem!_pos l.toArray 0 (by simpa using hl0)]
    simpa using hl1
  have hlast : (popA l.toArray).toList[n]? = some x := by
    have hs := p1.out
    have hn2 := hn1.out
    rw [← hx0, ← p2.out, Array.getElem?_toList, Array.getElem?_eq_getElem (by omega), getElem!_pos _ n (by omega)]
  rw [← hn1.out] at h4 hlen
  clear hx0
  have hP := Lib.hid (numPop_any w0 w4 T g c n cs _ _ h4 hlen (by omega) hlast)
  go_wp2_with fail
  refine hP.out.mono ?_
  rintro e w5 ⟨rfl, h5, t5⟩
  replace h5 := Lib.hid h5
  replace t5 := Lib.hid t5
  go_wp2_with fail
  go_ret
  exact ⟨rfl, _, h5.out, rfl, (tsb_mono S4.out.ts (fun j hj e => Or.inr (by rw [e]; rfl))).trans t5.out (fun j hj e => Or.inl e)⟩

end Go.Proofs.Ytdpmhhfpjpdfiaa

namespace Go.Proofs.Ytdpmhhfpjpdfiaa
open Go.ChangeShapes Go.WideShapes Go.ChangeAt Go.RowKit Go.Sort
set_option linter.unusedVariables false
set_option linter.unusedSimpArgs false

def fndW : List (I2 × Value) → I2 → Option (Nat × Value)
  | [], _ => none
  | p :: r, a => if p.1 = a then some (0, p.2) else (fndW r a).map fun q => (q.1 + 1, q.2)
theorem fndW_lkp (l : List (I2 × Value)) (a : I2) : (fndW l a).map (·.2) = lkp l a := by
  induction l with
  | nil => rfl
  | cons p l ih =>
    rw [fndW, lkp]
    split
    · rfl
    · rw [← ih, Option.map_map]; rfl
theorem fndW_at {l : List (I2 × Value)} {a : I2} {i : Nat} {v : Value} (h : fndW l a = some (i, v)) : l[i]? = some (a, v) := by
  induction l generalizing i with
  | nil => cases h
  | cons p l ih =>
    rw [fndW] at h
    split at h
    · rename_i e
      cases h
      rw [← e]; rfl
    · cases hf : fndW l a with
      | none => rw [hf] at h; cases h
      | some q =>
        rw [hf] at h
        cases h
        exact ih hf
theorem asking_at (a b : Int) (W : World) : ∀ (es : List MapEntry) (l : List (I2 × Value)) (i : Nat), es.map (fun e => (e.key, e.val)) = l.map (fun p => (idv p.1.1 p.1.2, p.2)) →
    (Instr.findAsking 30 (idv a b) es i).run Try.prog W = .ok ((fndW l (a, b)).map fun q => (q.1 + i, q.2)) W
  | [], [], i, _ => rfl
  | [], p :: l, i, h => by simp at h
  | e :: es, [], i, h => by simp at h
  | e :: es, p :: l, i, h => by
    obtain ⟨⟨c, d⟩, v⟩ := p
    simp only [List.map_cons, List.cons.injEq, Prod.mk.injEq] at h
    obtain ⟨⟨h1, h2⟩, h3⟩ := h
    by_cases hs : c = a ∧ d = b
    · obtain ⟨rfl, rfl⟩ := hs
      unfold Instr.findAsking
      simp [h1, h2, id_equal, Result.andThen, fndW]
    · have hd : decide (a = c ∧ b = d) = false := decide_eq_false (fun e => hs ⟨e.1.symm, e.2.symm⟩)
      have hr := asking_at a b W es l (i + 1) h3
      unfold Instr.findAsking
      simp only [Sem.run_bind, h1, id_equal, hd, Result.andThen_ok]
      have hf : fndW (((c, d), v) :: l) (a, b) = (fndW l (a, b)).map fun q => (q.1 + 1, q.2) := by
        rw [fndW, if_neg (fun e => hs (by injection e with e1 e2; exact ⟨e1, e2⟩))]
      rw [hf]
      simp only [Option.map_map]
      have : ((fun q : Nat × Value => (q.1 + i, q.2)) ∘ fun q => (q.1 + 1, q.2)) = fun q : Nat × Value => (q.1 + (i + 1), q.2) := by
        funext q; simp; omega
      rw [this]
      simpa using hr
theorem find_at (a b : Int) (W : World) (es : List MapEntry) (l : List (I2 × Value)) (h : es.map (fun e => (e.key, e.val)) = l.map (fun p => (idv p.1.1 p.1.2, p.2))) :
    (Instr.findKey 30 (idv a b) es).run Try.prog W = .ok (fndW l (a, b)) W := by
  have hr := asking_at a b W es l 0 h
  have e0 : ((fndW l (a, b)).map fun q => (q.1 + 0, q.2)) = fndW l (a, b) := by cases fndW l (a, b) <;> rfl
  rw [e0] at hr
  unfold Instr.findKey
  simp only [Sem.run_bind, run_underlying Try.underlying30, Result.andThen_ok]
  cases es with
  | nil => simpa [Instr.findNow, Instr.findAsking] using hr
  | cons e es => simpa [Instr.findNow, Instr.sameNow] using hr

def MapW (w : World) (b : Nat) (l : List (I2 × Value)) : Prop := ∃ es clk, w.heap[b]? = some (.map es clk) ∧ es.toList.map (fun e => (e.key, e.val)) = l.map (fun p => (idv p.1.1 p.1.2, p.2)) ∧
  es.toList.Pairwise (fun x y => x.born ≠ y.born) ∧ ∀ e ∈ es.toList, e.born < clk
theorem MapW.lt {w : World} {b : Nat} {l : List (I2 × Value)} (h : MapW w b l) : b < w.heap.size := by
  obtain ⟨es, clk, hb, _⟩ := h
  exact (Array.getElem?_eq_some_iff.1 hb).1
theorem MapW.plain {w : World} {b : Nat} {l : List (I2 × Value)} (h : MapW w b l) : MapS w b l := by
  obtain ⟨es, clk, hb, hl, _⟩ := h
  exact ⟨es, clk, hb, hl⟩
theorem MapW.of {w w' : World} {b : Nat} {l : List (I2 × Value)} (h : MapW w b l) (e : w'.heap[b]? = w.heap[b]?) : MapW w' b l := by
  obtain ⟨es, clk, hb, r⟩ := h
  exact ⟨es, clk, e.trans hb, r⟩
theorem MapW.ext {w w' : World} {b : Nat} {l : List (I2 × Value)} (h : MapW w b l) (hx : Ext w w') : MapW w' b l := h.of (RowKit.Below.block hx b h.lt)
theorem MapW.made (w : World) : MapW (w.alloc (.map #[] 0)) w.heap.size [] := ⟨#[], 0, (MapKept.heap_alloc w _).1, rfl, List.Pairwise.nil, by simp⟩

theorem stays_id (a b : Int) (W : World) : (Instr.keyThatStays (idv a b) (idv a b)).run Try.prog W = .ok (idv a b) W := by
  have h : Instr.sameBits 10000 (idv a b) (idv a b) = true := by simp [Instr.sameBits]
  unfold Instr.keyThatStays
  rw [if_pos h]
  rfl

def MapB (w : World) (b : Nat) (l : List (I2 × Value)) (a : I2) (st : Nat) : Prop := ∃ es clk, w.heap[b]? = some (.map es clk) ∧ es.toList.map (fun e => (e.key, e.val)) = l.map (fun p => (idv p.1.1 p.1.2, p.2)) ∧
  es.toList.Pairwise (fun x y => x.born ≠ y.born) ∧ (∀ e ∈ es.toList, e.born < clk) ∧ ∃ (i : Nat) (v : Value) (e : MapEntry), fndW l a = some (i, v) ∧ es.toList[i]? = some e ∧ e.born = st
theorem MapB.of {w w' : World} {b st : Nat} {l : List (I2 × Value)} {a : I2} (h : MapB w b l a st) (e : w'.heap[b]? = w.heap[b]?) : MapB w' b l a st := by
  obtain ⟨es, clk, hb, r⟩ := h
  exact ⟨es, clk, e.trans hb, r⟩
theorem MapB.lt {w : World} {b st : Nat} {l : List (I2 × Value)} {a : I2} (h : MapB w b l a st) : b < w.heap.size := by
  obtain ⟨es, clk, hb, _⟩ := h
  exact (Array.getElem?_eq_some_iff.1 hb).1
def opnW (l : List (I2 × Value)) (a : I2) : List (I2 × Value) := if (lkp l a).isSome then l else l ++ [(a, .slice none 0 0)]
theorem fndW_snoc {l : List (I2 × Value)} {a : I2} (v : Value) (h : fndW l a = none) : fndW (l ++ [(a, v)]) a = some (l.length, v) := by
  induction l with
  | nil => simp [fndW]
  | cons p l ih =>
    rw [fndW] at h
    split at h
    · cases h
    · rename_i e
      have h' : fndW l a = none := by cases hf : fndW l a with
        | none => rfl
        | some q => rw [hf] at h; cases h
      rw [List.cons_append, fndW, if_neg e, ih h']
      simp
theorem grown_map (w : World) (b : Nat) (es : Array MapEntry) (clk : Nat) (o' : Obj) (hb : w.heap[b]? = some (.map es clk)) : w.grownBy (ChangeMaps.setBlock w b o') (some b) :=
  ⟨rfl, rfl, rfl, by simp [ChangeMaps.setBlock], fun i _ hi => ChangeMaps.heap_setBlock_other hb _ (fun e => hi (by rw [e]))⟩

theorem MapW.entry {w : World} {b : Nat} {l : List (I2 × Value)} (h : MapW w b l) {T E : TypeId} (ht : Try.prog.underlying T = some (.map 30 E)) (hz : (zeroValue E).run Try.prog w = .ok (.slice none 0 0) w) (a : I2) :
    ∃ w' st, (Instr.mapEntry T (.map (some b)) (.agg #[.int .u32 a.1, .int .u32 a.2])).run Try.prog w = .ok (.tuple #[(lkp l a).getD (.slice none 0 0), .int .i64 (st : Nat)]) w' ∧ MapB w' b (opnW l a) a st ∧ w.grownBy w' (some b) := by
  obtain ⟨es, clk, hb, hl, hp, hc⟩ := h
  have hf := find_at a.1 a.2 w es.toList l hl
  have hk := id_check false a.1 a.2 w
  have hlk := fndW_lkp l a
  cases hq : fndW l a with
  | none =>
    rw [hq] at hf hlk
    have hlk' : lkp l a = none := hlk.symm
    refine ⟨ChangeMaps.setBlock w b (.map (es.push { key := idv a.1 a.2, val := .slice none 0 0, born := clk }) (clk + 1)), clk, ?_, ?_, grown_map w b _ _ _ hb⟩
    · have hf' : (Instr.findKey 30 (.agg #[.int .u32 a.1, .int .u32 a.2]) es.toList).run Try.prog w = .ok none w := hf
      simp [Instr.mapEntry, run_underlying ht, MapKept.run_getObj_map hb, hk, hf', hz, MapKept.run_setObj_map _ hb, Result.andThen, ChangeMaps.setBlock, hlk', goInt]
    · refine ⟨_, _, ChangeMaps.heap_setBlock_same hb _, ?_, ?_, ?_, l.length, .slice none 0 0, { key := idv a.1 a.2, val := .slice none 0 0, born := clk }, ?_, ?_, rfl⟩
      · unfold opnW
        rw [hlk']
        simp [hl]
      · simp only [Array.toList_push]
        refine List.pairwise_append.2 ⟨hp, by simp, fun x hx y hy => ?_⟩
        simp at hy
        subst hy
        have := hc x hx
        simp; omega
      · intro e he
        simp only [Array.toList_push, List.mem_append, List.mem_singleton] at he
        rcases he with he | rfl
        · have := hc e he; omega
        · simp
      · unfold opnW
        rw [hlk']
        exact fndW_snoc _ hq
      · have hlen : es.toList.length = l.length := by have := congrArg List.length hl; simpa using this
        rw [Array.toList_push, List.getElem?_append_right (by omega), hlen]
        simp
  | some q =>
    obtain ⟨i, v⟩ := q
    rw [hq] at hf hlk
    have hlk' : lkp l a = some v := hlk.symm
    have hli := fndW_at hq
    have hei : ∃ e, es.toList[i]? = some e ∧ e.key = idv a.1 a.2 ∧ e.val = v := by
      have h1 : (es.toList.map (fun e => (e.key, e.val)))[i]? = some (idv a.1 a.2, v) := by rw [hl, List.getElem?_map, hli]; rfl
      rw [List.getElem?_map] at h1
      cases he : es.toList[i]? with
      | none => rw [he] at h1; cases h1
      | some e =>
        rw [he] at h1
        simp at h1
        exact ⟨e, rfl, h1.1, h1.2⟩
    obtain ⟨e, he, hek, hev⟩ := hei
    have he' : es[i]? = some e := by rw [← Array.getElem?_toList]; exact he
    have hst := stays_id a.1 a.2 w
    have hes : (es.modify i fun e => { e with key := idv a.1 a.2 }) = es := by
      apply Array.ext_getElem?
      intro j
      rw [Array.getElem?_modify]
      split
      · rename_i e1
        subst e1
        rw [he']
        simp [← hek]
      · rfl
    refine ⟨ChangeMaps.setBlock w b (.map es clk), e.born, ?_, ?_, grown_map w b _ _ _ hb⟩
    · have hf' : (Instr.findKey 30 (.agg #[.int .u32 a.1, .int .u32 a.2]) es.toList).run Try.prog w = .ok (some (i, v)) w := hf
      have hst' : (Instr.keyThatStays (.agg #[.int .u32 a.1, .int .u32 a.2]) (.agg #[.int .u32 a.1, .int .u32 a.2])).run Try.prog w = .ok (.agg #[.int .u32 a.1, .int .u32 a.2]) w := hst
      have hes' : (es.modify i fun e => { e with key := .agg #[.int .u32 a.1, .int .u32 a.2] }) = es := hes
      have hek' : e.key = .agg #[.int .u32 a.1, .int .u32 a.2] := hek
      simp [Instr.mapEntry, run_underlying ht, MapKept.run_getObj_map hb, hk, hf', he', hek', hst', hes', MapKept.run_setObj_map _ hb, Result.andThen, ChangeMaps.setBlock, hlk', goInt]
    · refine ⟨_, _, ChangeMaps.heap_setBlock_same hb _, ?_, hp, hc, i, v, e, ?_, he, rfl⟩
      · unfold opnW
        rw [hlk']
        exact hl
      · unfold opnW
        rw [hlk']
        exact hq

def putW (l : List (I2 × Value)) (a : I2) (v : Value) : List (I2 × Value) := l.map fun p => if p.1 = a then (a, v) else p
theorem fndW_first {l : List (I2 × Value)} {a : I2} {i : Nat} {v : Value} (h : fndW l a = some (i, v)) (hn : (l.map (·.1)).Nodup) : ∀ j p, l[j]? = some p → p.1 = a → j = i := by
  intro j p hj hp
  have hi := fndW_at h
  have h1 : (l.map (·.1))[i]? = some a := by rw [List.getElem?_map, hi]; rfl
  have h2 : (l.map (·.1))[j]? = some a := by rw [List.getElem?_map, hj]; simp [hp]
  have l1 := (List.getElem?_eq_some_iff.1 h1).1
  have l2 := (List.getElem?_eq_some_iff.1 h2).1
  rcases Nat.lt_trichotomy i j with h3 | h3 | h3
  · have := List.pairwise_iff_getElem.1 hn i j l1 l2 h3
    rw [(List.getElem?_eq_some_iff.1 h1).2, (List.getElem?_eq_some_iff.1 h2).2] at this
    exact absurd rfl this
  · exact h3.symm
  · have := List.pairwise_iff_getElem.1 hn j i l2 l1 h3
    rw [(List.getElem?_eq_some_iff.1 h1).2, (List.getElem?_eq_some_iff.1 h2).2] at this
    exact absurd rfl this
theorem MapB.store {w : World} {b st : Nat} {l : List (I2 × Value)} {a : I2} (h : MapB w b l a st) (hn : (l.map (·.1)).Nodup) (T : TypeId) (val : Value) :
    ∃ w', (Instr.entryStore T (.map (some b)) (.int .i64 (st : Nat)) val).run Try.prog w = .ok () w' ∧ MapW w' b (putW l a val) ∧ w.grownBy w' (some b) := by
  obtain ⟨es, clk, hb, hl, hp, hc, i, v, e, hf, he, hst⟩ := h
  have hli := fndW_at hf
  have hil : i < es.size := by have := (List.getElem?_eq_some_iff.1 he).1; simpa using this
  have hee : es[i] = e := by have := (List.getElem?_eq_some_iff.1 he).2; simpa using this
  have hidx : es.findIdx? (fun e => (e.born : Int) == ((st : Nat) : Int)) = some i := by
    rw [Array.findIdx?_eq_some_iff_getElem]
    refine ⟨hil, by rw [hee, hst]; simp, fun j hj => ?_⟩
    have := List.pairwise_iff_getElem.1 hp j i (by simp; omega) (by simpa using hil) hj
    simp only [Array.getElem_toList] at this
    rw [hee, hst] at this
    simp
    omega
  refine ⟨ChangeMaps.setBlock w b (.map (es.modify i fun e => { e with val }) clk), ?_, ⟨_, clk, ChangeMaps.heap_setBlock_same hb _, ?_, ?_, ?_⟩, grown_map w b _ _ _ hb⟩
  · have hai : Sem.run Try.prog (asIntOf (.int .i64 ((st : Nat) : Int))) w = .ok (.i64, ((st : Nat) : Int)) w := rfl
    simp [Instr.entryStore, MapKept.run_getObj_map hb, asInt, hai, hidx, MapKept.run_setObj_map _ hb, Result.andThen, ChangeMaps.setBlock]
  · apply List.ext_getElem?
    intro j
    have hjl : (es.toList.map (fun e => (e.key, e.val)))[j]? = (l.map (fun p => (idv p.1.1 p.1.2, p.2)))[j]? := by rw [hl]
    rw [List.getElem?_map, List.getElem?_map] at hjl
    unfold putW
    rw [List.getElem?_map, List.getElem?_map, List.getElem?_map, Array.getElem?_toList, Array.getElem?_modify]
    rw [Array.getElem?_toList] at hjl
    cases hlj : l[j]? with
    | none =>
      rw [hlj] at hjl
      cases hej : es[j]? with
      | none => simp
      | some e2 => rw [hej] at hjl; cases hjl
    | some p =>
      rw [hlj] at hjl
      cases hej : es[j]? with
      | none => rw [hej] at hjl; cases hjl
      | some e2 =>
        rw [hej] at hjl
        simp at hjl
        by_cases hji : i = j
        · subst hji
          rw [hli] at hlj
          cases hlj
          simp [hjl.1]
        · have hpa : p.1 ≠ a := fun e3 => hji (fndW_first hf hn j p hlj e3).symm
          simp [hji, hpa, hjl.1, hjl.2]
  · have hm : (es.modify i fun e => { e with val }).toList.map (·.born) = es.toList.map (·.born) := by
      apply List.ext_getElem?
      intro j
      rw [List.getElem?_map, List.getElem?_map, Array.getElem?_toList, Array.getElem?_toList, Array.getElem?_modify]
      split
      · cases es[j]? <;> rfl
      · rfl
    have h1 : (es.toList.map (·.born)).Pairwise (· ≠ ·) := List.pairwise_map.2 hp
    rw [← hm] at h1
    exact List.pairwise_map.1 h1
  · intro x hx
    obtain ⟨j, hj⟩ := List.getElem?_of_mem hx
    rw [Array.getElem?_toList, Array.getElem?_modify] at hj
    split at hj
    · cases hej : es[j]? with
      | none => rw [hej] at hj; cases hj
      | some e2 =>
        rw [hej] at hj
        simp at hj
        rw [← hj]
        exact hc e2 (List.mem_of_getElem? (by rw [Array.getElem?_toList]; exact hej))
    · exact hc x (List.mem_of_getElem? (by rw [Array.getElem?_toList]; exact hj))

def delW (l : List (I2 × Value)) (a : I2) : List (I2 × Value) := l.filter fun p => decide (p.1 ≠ a)
theorem del_erase : ∀ {l : List (I2 × Value)} {a : I2} {i : Nat} {v : Value}, fndW l a = some (i, v) → (l.map (·.1)).Nodup → delW l a = l.eraseIdx i
  | [], _, _, _, h, _ => by cases h
  | p :: l, a, i, v, h, hn => by
    have hn' : p.1 ∉ l.map (·.1) ∧ (l.map (·.1)).Nodup := List.nodup_cons.1 hn
    rw [fndW] at h
    split at h
    · rename_i e
      cases h
      have : delW l a = l := List.filter_eq_self.2 fun q hq => by
        simp only [decide_eq_true_eq]
        intro e2
        exact hn'.1 (by rw [e, ← e2]; exact List.mem_map.2 ⟨q, hq, rfl⟩)
      show (p :: l).filter _ = _
      rw [List.filter_cons_of_neg (by simp [e])]
      simpa [delW] using this
    · rename_i e
      cases hf : fndW l a with
      | none => rw [hf] at h; cases h
      | some q =>
        rw [hf] at h
        cases h
        have ih := del_erase hf hn'.2
        show (p :: l).filter _ = _
        rw [List.filter_cons_of_pos (by simp [e])]
        simp only [List.eraseIdx_cons_succ]
        congr 1
theorem del_none {l : List (I2 × Value)} {a : I2} (h : fndW l a = none) : delW l a = l := by
  refine List.filter_eq_self.2 fun q hq => ?_
  have h1 : lkp l a = none := by rw [← fndW_lkp, h]; rfl
  simpa using lkp_none.1 h1 q hq
theorem MapW.drop {w : World} {b : Nat} {l : List (I2 × Value)} (h : MapW w b l) (hn : (l.map (·.1)).Nodup) {T E : TypeId} (ht : Try.prog.underlying T = some (.map 30 E)) (a : I2) (ty : TypeId) :
    ∃ w', (Builtin.delete_ #[T, 30] ty #[.map (some b), .agg #[.int .u32 a.1, .int .u32 a.2]]).run Try.prog w = .ok (.tuple #[]) w' ∧ MapW w' b (delW l a) ∧ w.grownBy w' (some b) := by
  obtain ⟨es, clk, hb, hl, hp, hc⟩ := h
  have hf := find_at a.1 a.2 w es.toList l hl
  have hk := id_check es.isEmpty a.1 a.2 w
  cases hq : fndW l a with
  | none =>
    rw [hq] at hf
    have hf' : (Instr.findKey 30 (.agg #[.int .u32 a.1, .int .u32 a.2]) es.toList).run Try.prog w = .ok none w := hf
    refine ⟨ChangeMaps.setBlock w b (.map es clk), ?_, ⟨es, clk, ChangeMaps.heap_setBlock_same hb _, by rw [del_none hq]; exact hl, hp, hc⟩, grown_map w b _ _ _ hb⟩
    simp [Builtin.delete_, run_underlying ht, MapKept.run_getObj_map hb, hk, hf', MapKept.run_setObj_map _ hb, Result.andThen, ChangeMaps.setBlock]
  | some q =>
    obtain ⟨i, v⟩ := q
    rw [hq] at hf
    have hf' : (Instr.findKey 30 (.agg #[.int .u32 a.1, .int .u32 a.2]) es.toList).run Try.prog w = .ok (some (i, v)) w := hf
    have hli := fndW_at hq
    have hlen : es.toList.length = l.length := by have := congrArg List.length hl; simpa using this
    have hil : i < es.size := by have := (List.getElem?_eq_some_iff.1 hli).1; simp at hlen; omega
    have her : (es.eraseIdxIfInBounds i).toList = es.toList.eraseIdx i := by
      unfold Array.eraseIdxIfInBounds
      rw [dif_pos hil]
      simp
    refine ⟨ChangeMaps.setBlock w b (.map (es.eraseIdxIfInBounds i) clk), ?_, ⟨_, clk, ChangeMaps.heap_setBlock_same hb _, ?_, ?_, ?_⟩, grown_map w b _ _ _ hb⟩
    · simp [Builtin.delete_, run_underlying ht, MapKept.run_getObj_map hb, hk, hf', MapKept.run_setObj_map _ hb, Result.andThen, ChangeMaps.setBlock]
    · rw [her, del_erase hq hn, List.eraseIdx_eq_take_drop_succ, List.eraseIdx_eq_take_drop_succ, List.map_append, List.map_append, List.map_take, List.map_drop, List.map_take, List.map_drop, hl]
    · rw [her]
      exact hp.sublist (List.eraseIdx_sublist _ _)
    · intro x hx
      rw [her] at hx
      exact hc x ((List.eraseIdx_sublist _ _).subset hx)

end Go.Proofs.Ytdpmhhfpjpdfiaa

namespace Go.Proofs.Ytdpmhhfpjpdfiaa
open Go.ChangeShapes Go.WideShapes Go.ChangeAt Go.RowKit Go.Sort Go.Maps
set_option linter.unusedVariables false
set_option linter.unusedSimpArgs false

abbrev MapU (w : World) (b n : Nat) (D : DataW Unit) : Prop := w.ownsMap Try.prog 28 (plainElem (H := Unit) Try.prog 28) b n D
theorem keyedU : Keyed Try.prog 28 := int_keyed Try.underlying28
theorem wfU {c : Int} (h0 : 0 ≤ c) (h1 : c ≤ 4294967295) : (Lit.int .u32 c).wf = true := by
  simp [Lit.wf, IntKind.min, IntKind.max, IntKind.signed, IntKind.bits]
  omega
theorem keyU {c : Int} (h0 : 0 ≤ c) (h1 : c ≤ 4294967295) : keyOf Try.prog 28 (.int .u32 c) = some (.int .u32 c) := keyOf_int_mk Try.underlying28 (wfU h0 h1)
theorem litU {c : Int} (h0 : 0 ≤ c) (h1 : c ≤ 4294967295) : WideAt.IsKeyLit (.int .u32 c) := keyedU.key (keyU h0 h1)

def MapV (D : DataW Unit) (V0 V : List (Int × Int)) : Prop := (∀ c, 0 ≤ c → c ≤ 4294967295 → if has D (.int .u32 c) = true then D.atKey (.int .u32 c) (.lit (.int .u32 0)) = .lit (.int .u32 (nextOf V c)) else nextOf V0 c = nextOf V c) ∧
  ∀ c, has D (.int .u32 c) = true → 0 < c ∧ c ≤ 4294967295 ∧ 0 < nextOf V c ∧ nextOf V0 c ≤ nextOf V c
theorem mapV_start (V : List (Int × Int)) : MapV (.map []) V V := ⟨fun c h0 h1 => by rw [if_neg (by simp [has])], fun c h => by simp [has] at h⟩
theorem MapU.ext {w w' : World} {b n : Nat} {D : DataW Unit} (h : MapU w b n D) (hx : Ext w w') : MapU w' b n D := by
  have hlt := h.lt
  obtain ⟨es, clock, hb, F, hs, hD⟩ := h
  exact ⟨es, clock, (RowKit.Below.block hx b hlt).trans hb, F, hs, hD⟩
theorem zeroU (w : World) : (zeroValue 28).run Try.prog w = .ok (.int .u32 0) w := by kernel_rfl

def Kn (w : World) (m : Option Nat) (V0 V : List (Int × Int)) : Prop := (m = none ∧ V0 = V) ∨ ∃ b nn D, m = some b ∧ MapU w b nn D ∧ MapV D V0 V
theorem Kn.ext {w w' : World} {m : Option Nat} {V0 V : List (Int × Int)} (h : Kn w m V0 V) (hx : Ext w w') : Kn w' m V0 V := by
  rcases h with h | ⟨b, nn, D, e, h1, h2⟩
  · exact .inl h
  · exact .inr ⟨b, nn, D, e, h1.ext hx, h2⟩
theorem Kn.look {w : World} {m : Option Nat} {V0 V : List (Int × Int)} (h : Kn w m V0 V) {c : Int} (h0 : 0 ≤ c) (h1 : c ≤ 4294967295) :
    ∃ (v : Int) (g : Bool), (Instr.lookup 44 (.map m) (.int .u32 c) true).run Try.prog w = .ok (.tuple #[.int .u32 v, .bool g]) w ∧ (g = true → v = nextOf V c) ∧ (g = false → nextOf V0 c = nextOf V c) := by
  rcases h with ⟨rfl, rfl⟩ | ⟨b, nn, D, rfl, hM, hV⟩
  · exact ⟨0, false, Maps.look_nil true keyedU Try.underlying44 (zeroU w) (keyU h0 h1), by simp, fun _ => rfl⟩
  · obtain ⟨v, ps, hr, hv⟩ := hM.look_ok keyedU Try.underlying44 (zeroU w) (plainElem_int (H := Unit) Try.underlying28 (wfU (c := 0) (by omega) (by omega))) (keyU h0 h1)
    obtain ⟨x, rfl, e, _⟩ := plainElem_int_inv Try.underlying28 hv
    have e1 : D.atKey (.int .u32 c) (.lit (.int .u32 0)) = .lit (.int .u32 x) := congrArg Prod.fst e
    have hc := hV.1 c h0 h1
    refine ⟨x, has D (.int .u32 c), hr, fun hg => ?_, fun hg => ?_⟩
    · rw [if_pos hg, e1] at hc
      simp only [DataW.lit.injEq, Lit.int.injEq, true_and] at hc
      exact hc
    · rw [if_neg (by rw [hg]; simp)] at hc
      exact hc

end Go.Proofs.Ytdpmhhfpjpdfiaa

namespace Go.Proofs.Ytdpmhhfpjpdfiaa
open Go.ChangeShapes Go.WideShapes Go.ChangeAt Go.RowKit Go.Sort
set_option linter.unusedVariables false
set_option linter.unusedSimpArgs false

def encC (p : Int × Int) : List Value := [Vu p.1, Vu p.2]
theorem encC_len (p : Int × Int) : (encC p).length = 2 := rfl
theorem encC_one (p : Int × Int) : ∀ u ∈ encC p, u.oneCell' = true := by intro u hu; simp [encC] at hu; rcases hu with rfl | rfl <;> rfl
def Vec (w : World) (A : Option Addr) (l : List (Int × Int)) : Prop := Row w A (flat encC l)
theorem Vec.ext {w w' : World} {A : Option Addr} {l : List (Int × Int)} (h : Vec w A l) (hx : Ext w w') : Vec w' A l := Row.ext h hx
theorem Vec.nil (w : World) (A : Option Addr) : Vec w A [] := Row.nil w A
theorem Vec.at {w : World} {A : Option Addr} {l : List (Int × Int)} (h : Vec w A l) {k : Nat} (hk : k < l.length) :
    ∃ b o x y, A = some ⟨b, o, none⟩ ∧ l[k]? = some (x, y) ∧ w.cell? ⟨b, o + k * 2, none⟩ = some (Vu x) ∧ w.cell? ⟨b, o + k * 2 + 1, none⟩ = some (Vu y) := by
  obtain ⟨⟨x, y⟩, hp⟩ : ∃ p, l[k]? = some p := ⟨l[k], List.getElem?_eq_getElem hk⟩
  obtain ⟨b, o, e, hc⟩ := Row.at h encC_len hp (by omega)
  exact ⟨b, o, x, y, e, hp, hc 0 _ rfl, hc 1 _ rfl⟩

theorem next_drop {l : List (Int × Int)} {k : Nat} {x y : Int} (h : l[k]? = some (x, y)) (c : Int) : nextOf (l.drop k) c = if x = c then y else nextOf (l.drop (k + 1)) c := by
  obtain ⟨hk, e⟩ := List.getElem?_eq_some_iff.1 h
  rw [List.drop_eq_getElem_cons hk, e, nextOf]

set_option maxHeartbeats 400000 in
theorem nextRef_any (A : Option Addr) (n cap : Nat) (l : List (Int × Int)) (c : Int) (w : World) (hv : Vec w A l) (hn : l.length = n) (hb : n ≤ 1000) :
    Calls Try.prog 15 #[.slice A n cap, Vu c] w fun e w' => e = .returned (Vu (nextOf l c)) ∧ w = w' := by
  replace hn := Lib.hid hn
  replace hv := Lib.hid hv
  go_enter Try.func15, Try.ntmps15
  go_wp2
  go_loop [5] (fun i => ∃ k : Nat, k ≤ n ∧ i = .int .i64 k ∧ Hid (nextOf l c = nextOf (l.drop k) c)) (fun i => n - (intOf i).toNat)
  case atStart => exact ⟨0, Nat.zero_le _, rfl, Lib.hid (by simp)⟩
  case round =>
    obtain ⟨k, hk, rfl, hrel⟩ := hrel
    by_cases hlt : k < n
    · obtain ⟨b, o, x, y, rfl, hp, c0, c1⟩ := hv.out.at (k := k) (by rw [hn.out]; exact hlt)
      by_cases hx : x = c
      · subst hx
        have hd := Lib.hid (show nextOf (l.drop k) x = y by rw [next_drop hp, if_pos rfl])
        clear hp
        go_wp2
        go_ret
        exact ⟨ret_u32 (a := y) (by rw [hrel.out, hd.out]), rfl⟩
      · have hx' : (x == c) = false := by simpa using hx
        have hd := Lib.hid (show nextOf (l.drop k) c = nextOf (l.drop (k + 1)) c by rw [next_drop hp, if_neg hx])
        clear hp hx
        go_wp2
        go_round
        case rel => exact ⟨k + 1, by omega, by go_num, Lib.hid (by rw [hrel.out, hd.out])⟩
        case measure => simp [intOf]; omega
    · have hz := Lib.hid (show l.drop k = [] from List.drop_eq_nil_of_le (by rw [hn.out]; omega))
      go_wp2
      go_ret
      exact ⟨ret_u32 (a := 0) (by rw [hrel.out, hz.out]; rfl), rfl⟩

def ahead (l : List (Int × Int)) : Nat → Int
  | 0 => 0
  | k + 1 => ((l[k]?).getD (0, 0)).1
theorem may_drop {l : List (Int × Int)} {k : Nat} {x y : Int} (h : l[k]? = some (x, y)) (a : Int) : mayFrom a (l.drop k) = (decide (a < x ∧ 0 < y) && mayFrom x (l.drop (k + 1))) := by
  obtain ⟨hk, e⟩ := List.getElem?_eq_some_iff.1 h
  rw [List.drop_eq_getElem_cons hk, e, mayFrom]
theorem may_end {l : List (Int × Int)} {k : Nat} (h : l.length ≤ k) (a : Int) : mayFrom a (l.drop k) = true := by
  rw [List.drop_eq_nil_of_le h]; rfl
theorem ahead_succ {l : List (Int × Int)} {k : Nat} {x y : Int} (h : l[k]? = some (x, y)) : ahead l (k + 1) = x := by simp [ahead, h]
theorem wf_at {l : List (Int × Int)} (hw : wfC l) {k : Nat} {x y : Int} (h : l[k]? = some (x, y)) : 0 ≤ x ∧ x ≤ 4294967295 ∧ 0 ≤ y ∧ y ≤ 4294967295 := hw (x, y) (List.mem_of_getElem? h)
theorem ahead_nonneg {l : List (Int × Int)} (hw : wfC l) (k : Nat) : 0 ≤ ahead l k := by
  cases k with
  | zero => simp [ahead]
  | succ k =>
    cases h : l[k]? with
    | none => simp [ahead, h]
    | some p => rw [ahead_succ (x := p.1) (y := p.2) h]; exact (wf_at hw (x := p.1) (y := p.2) h).1

theorem clock_neq (a b : Int) (W : World) : (binOp .neq 42 (.agg #[.int .u32 a, .int .u32 b]) (.agg #[.int .u32 a, .int .u32 b])).run Try.prog W = .ok (.bool false) W := by
  simp [go_sem]

set_option maxHeartbeats 1000000 in
theorem same_any (A B : Option Addr) (n cap cap' : Nat) (l : List (Int × Int)) (w : World) (hv : Vec w A l) (hu : Vec w B l) (hn : l.length = n) (hb : n ≤ 1000) :
    Calls Try.prog 13 #[.slice A n cap, .slice B n cap'] w fun e w' => e = .returned (.bool true) ∧ Ext w w' := by
  replace hn := Lib.hid hn
  replace hv := Lib.hid hv
  replace hu := Lib.hid hu
  go_enter Try.func13, Try.ntmps13
  go_wp2
  go_loopw [5] (fun i W => ∃ (k : Nat), k ≤ n ∧ i = .int .i64 k ∧ Ext w W) (fun i _ => n - (intOf i).toNat)
  case atStart => exact ⟨0, Nat.zero_le _, rfl, Ext.refl _⟩
  case round =>
    obtain ⟨k, hk, rfl, hx⟩ := hrel
    by_cases hlt : k < n
    · obtain ⟨b, o, x, y, rfl, hp, c0, c1⟩ := (hv.out.ext hx).at (k := k) (by rw [hn.out]; exact hlt)
      obtain ⟨b', o', x', y', rfl, hp', c0', c1'⟩ := (hu.out.ext hx).at (k := k) (by rw [hn.out]; exact hlt)
      rw [hp] at hp'
      injection hp' with hp'
      injection hp' with e1 e2
      subst e1
      subst e2
      clear hp
      have hnq := clock_neq x y
      go_wp2
      go_quiet (fail)
      go_wp2
      go_roundw
      case rel => exact ⟨k + 1, by omega, by go_num, hx.drewN _⟩
      case measure => simp [intOf]; omega
    · go_wp2
      go_ret
      exact ⟨rfl, hx⟩

end Go.Proofs.Ytdpmhhfpjpdfiaa

namespace Go.Proofs.Ytdpmhhfpjpdfiaa
open Go.ChangeShapes Go.WideShapes Go.ChangeAt Go.RowKit Go.Sort
set_option linter.unusedVariables false
set_option linter.unusedSimpArgs false

theorem byClient_any (x y c : Int) (w : World) : Calls Try.prog 64 #[.agg #[.int .u32 x, .int .u32 y], Vu c] w fun e w' => e = .returned (Vi (cmpI x c)) ∧ Ext w w' := by
  go_enter Try.func64, Try.ntmps64
  go_wp2_with (go_at_call 40; refine (compare_any _ _ _).mono ?_; rintro e w' ⟨rfl, rfl⟩)
  go_ret
  exact ⟨rfl, (Ext.refl _).alloc _⟩

set_option maxHeartbeats 2000000 in
theorem search_any (A : Option Addr) (n cap : Nat) (l : List (Int × Int)) (c : Int) (w : World) (hv : Vec w A l) (hn : l.length = n) (hm : mayFrom 0 l = true) (hb : n ≤ 1000) :
    Calls Try.prog 63 #[.slice A n cap, Vu c, .func (.func 64) #[] #[]] w fun e w' =>
      e = .returned (.tuple #[.int .i64 (idxOf l c : Nat), .bool (hasOf l c)]) ∧ Ext w w' := by
  replace hn := Lib.hid hn
  replace hv := Lib.hid hv
  replace hm := Lib.hid hm
  go_enter Try.func63, Try.ntmps63
  go_wp2
  go_loopg [9, 10] n (fun kx s9 s10 wr => ∃ lo hi : Nat, s9 = .int .i64 lo ∧ s10 = .int .i64 hi ∧ lo ≤ hi ∧ hi ≤ n ∧ hi - lo ≤ kx ∧ Ext w wr ∧
    Hid ((∀ t p, t < lo → l[t]? = some p → p.1 < c) ∧ (∀ t p, hi ≤ t → l[t]? = some p → c ≤ p.1)))
  case atStart => exact ⟨0, n, rfl, rfl, Nat.zero_le _, Nat.le_refl _, by omega, Ext.refl _, Lib.hid ⟨fun t p ht => absurd ht (Nat.not_lt_zero _), fun t p h1 h2 => by
    rw [List.getElem?_eq_none (by rw [hn.out]; exact h1)] at h2; cases h2⟩⟩
  case round =>
    obtain ⟨lo, hi, rfl, rfl, hlh, hin, hg, hx, I⟩ := hrel
    by_cases hlt : lo < hi
    · obtain ⟨b, o, x, y, rfl, hp, c0, c1⟩ := (hv.out.ext hx).at (k := (lo + hi) / 2) (by rw [hn.out]; omega)
      replace hp := Lib.hid hp
      by_cases hxc : x < c
      · have hc := byClient_any x y c wr
        rw [show cmpI x c = -1 by simp [cmpI, hxc]] at hc
        replace hc := Lib.hid hc
        go_wp2_with fail
        refine hc.out.mono ?_
        rintro e w1 ⟨rfl, x1⟩
        go_wp2
        go_roundg (hi - ((lo + hi) / 2 + 1))
        case measure => omega
        case rel =>
          exact ⟨(lo + hi) / 2 + 1, hi, by rw [show ((lo : Int) + (hi : Int)) / 2 + 1 = (((lo + hi) / 2 + 1 : Nat) : Int) by omega], rfl, by omega, hin, Nat.le_refl _, hx.trans x1,
            Lib.hid ⟨fun t p ht hq => by
              rcases Nat.lt_or_ge t ((lo + hi) / 2) with g | g
              · have := may_sorted hm.out g hq hp.out; simp only at this; omega
              · have e : t = (lo + hi) / 2 := by omega
                subst e
                rw [hp.out] at hq
                injection hq with hq
                subst hq
                exact hxc, I.out.2⟩⟩
      · have hc := byClient_any x y c wr
        obtain ⟨r, hr, hr0⟩ : ∃ r, cmpI x c = r ∧ 0 ≤ r := ⟨_, rfl, by unfold cmpI; (repeat' split) <;> omega⟩
        rw [hr] at hc
        replace hc := Lib.hid hc
        have hr' : decide (r < 0) = false := by simpa using hr0
        clear hr
        go_wp2_with fail
        refine hc.out.mono ?_
        rintro e w1 ⟨rfl, x1⟩
        go_wp2
        go_roundg ((lo + hi) / 2 - lo)
        case measure => omega
        case rel =>
          exact ⟨lo, (lo + hi) / 2, rfl, by rw [show ((lo : Int) + (hi : Int)) / 2 = (((lo + hi) / 2 : Nat) : Int) by omega], by omega, by omega, Nat.le_refl _, hx.trans x1,
            Lib.hid ⟨I.out.1, fun t p ht hq => by
              rcases Nat.lt_or_ge ((lo + hi) / 2) t with g | g
              · have := may_sorted hm.out g hp.out hq; simp only at this; omega
              · have e : t = (lo + hi) / 2 := by omega
                subst e
                rw [hp.out] at hq
                injection hq with hq
                subst hq
                simp only; omega⟩⟩
    · obtain rfl : hi = lo := by omega
      have hidx := Lib.hid (idx_of (l := l) (c := c) (i := hi) (by rw [hn.out]; exact hin) I.out.1 (fun p hp => I.out.2 hi p (Nat.le_refl _) hp))
      by_cases hlt2 : hi < n
      · obtain ⟨b, o, x, y, rfl, hp, c0, c1⟩ := (hv.out.ext hx).at (k := hi) (by rw [hn.out]; exact hlt2)
        have hhas := Lib.hid (show hasOf l c = decide (x = c) from has_at (p := (x, y)) (by rw [hidx.out]; exact hp))
        clear hp
        have hc := byClient_any x y c wr
        by_cases hxc : x = c
        · rw [show cmpI x c = 0 by simp [cmpI, hxc]] at hc
          have hh := Lib.hid (show hasOf l c = true by rw [hhas.out]; simpa using hxc)
          replace hc := Lib.hid hc
          clear hxc hhas
          go_wp2_with fail
          refine hc.out.mono ?_
          rintro e w1 ⟨rfl, x1⟩
          go_wp2
          go_ret2
          exact ⟨ret_ib (a := hi) (b := true) (by rw [hidx.out]) hh.out.symm, hx.trans x1⟩
        · have hh := Lib.hid (show hasOf l c = false by rw [hhas.out]; simpa using hxc)
          obtain ⟨r, hr, hr0⟩ : ∃ r, cmpI x c = r ∧ (r == 0) = false := ⟨_, rfl, by unfold cmpI; (repeat' split) <;> first | rfl | omega⟩
          rw [hr] at hc
          replace hc := Lib.hid hc
          clear hxc hhas hr
          go_wp2_with fail
          refine hc.out.mono ?_
          rintro e w1 ⟨rfl, x1⟩
          go_wp2
          go_ret2
          exact ⟨ret_ib (a := hi) (b := false) (by rw [hidx.out]) hh.out.symm, hx.trans x1⟩
      · have hh := Lib.hid (show hasOf l c = false from has_end (by rw [hidx.out, hn.out]; omega))
        go_wp2
        go_ret2
        exact ⟨ret_ib (a := hi) (b := false) (by rw [hidx.out]) hh.out.symm, hx⟩

theorem find_any (A : Option Addr) (n cap : Nat) (l : List (Int × Int)) (c : Int) (w : World) (hv : Vec w A l) (hn : l.length = n) (hm : mayFrom 0 l = true) (hb : n ≤ 1000) :
    Calls Try.prog 47 #[.slice A n cap, Vu c] w fun e w' => e = .returned (.tuple #[.int .i64 (idxOf l c : Nat), .bool (hasOf l c)]) ∧ Ext w w' := by
  have hc := Lib.hid (search_any A n cap l c w hv hn hm hb)
  clear hv hn hm
  generalize idxOf l c = i at *
  generalize hasOf l c = h at *
  go_enter Try.func47, Try.ntmps47
  go_wp2_with fail
  refine hc.out.mono ?_
  rintro e w1 ⟨rfl, x1⟩
  go_wp2
  go_ret2
  exact ⟨rfl, x1⟩

theorem next_any (A : Option Addr) (n cap : Nat) (l : List (Int × Int)) (c : Int) (w : World) (hv : Vec w A l) (hn : l.length = n) (hm : mayFrom 0 l = true) (hb : n ≤ 1000) :
    Calls Try.prog 36 #[.slice A n cap, Vu c] w fun e w' => e = .returned (Vu (nextOf l c)) ∧ Ext w w' := by
  have hc := Lib.hid (find_any A n cap l c w hv hn hm hb)
  by_cases hh : hasOf l c = true
  · obtain ⟨q, hq⟩ := idx_has hh
    have hq2 := Lib.hid (idx_next hm hq)
    have hlt : idxOf l c < n := by
      rw [← hn]
      exact (List.getElem?_eq_some_iff.1 hq).1
    obtain ⟨b, o, x, y, rfl, hp, c0, c1⟩ := hv.at (k := idxOf l c) (by rw [hn]; exact hlt)
    rw [hq] at hp
    injection hp with hp
    injection hp with e1 e2
    subst e1
    subst e2
    rw [hh] at hc
    clear hv hn hm hh hq
    generalize idxOf l c = i at *
    go_enter Try.func36, Try.ntmps36
    go_wp2_with fail
    refine hc.out.mono ?_
    rintro e w1 ⟨rfl, x1⟩
    replace c0 := x1.keep c0
    replace c1 := x1.keep c1
    go_wp2
    go_ret
    exact ⟨ret_u32 (a := q) hq2.out.symm, x1⟩
  · have hh' : hasOf l c = false := by simpa using hh
    have hz := Lib.hid (has_not hm hh')
    rw [hh'] at hc
    clear hv hn hm hh hh'
    generalize idxOf l c = i at *
    go_enter Try.func36, Try.ntmps36
    go_wp2_with fail
    refine hc.out.mono ?_
    rintro e w1 ⟨rfl, x1⟩
    go_wp2
    go_ret
    exact ⟨ret_u32 (a := 0) hz.out.symm, x1⟩

end Go.Proofs.Ytdpmhhfpjpdfiaa

namespace Go.Proofs.Ytdpmhhfpjpdfiaa
open Go.ChangeShapes Go.WideShapes Go.ChangeAt Go.RowKit Go.Sort Go.Maps
set_option linter.unusedVariables false
set_option linter.unusedSimpArgs false
attribute [local go_sem] World.cell?_alloc_some

abbrev knv (A : Option Addr) (n cap : Nat) (m : Option Nat) : Value := .agg #[.slice A n cap, .map m]
structure KnA (W : World) (A : Option Addr) (n cap : Nat) (m : Option Nat) (V0 V : List (Int × Int)) : Prop where
  vec : Vec W A V0
  len : V0.length = n
  may : mayFrom 0 V0 = true
  le : n ≤ 1000
  kn : Kn W m V0 V
theorem KnA.ext {W W' : World} {A : Option Addr} {n cap : Nat} {m : Option Nat} {V0 V : List (Int × Int)} (h : KnA W A n cap m V0 V) (hx : Ext W W') : KnA W' A n cap m V0 V := ⟨h.vec.ext hx, h.len, h.may, h.le, h.kn.ext hx⟩

set_option maxHeartbeats 1000000 in
theorem nextK_any (A : Option Addr) (n cap : Nat) (m : Option Nat) (V0 V : List (Int × Int)) (c : Int) (w : World) (h : KnA w A n cap m V0 V) (h0 : 0 ≤ c) (h1 : c ≤ 4294967295) :
    Calls Try.prog 23 #[knv A n cap m, Vu c] w fun e w' => e = .returned (Vu (nextOf V c)) ∧ Ext w w' := by
  have x1 : Ext w (w.alloc (.cells #[.slice A n cap, .map m] 46)) := (Ext.refl _).alloc _
  have h2 := h.ext x1
  obtain ⟨v, g, hl, hg1, hg2⟩ := h2.kn.look h0 h1
  have hn := Lib.hid (next_any A n cap V0 c _ h2.vec h2.len h2.may h2.le)
  have c0 : (w.alloc (.cells #[.slice A n cap, .map m] 46)).cell? ⟨w.heap.size, 0, none⟩ = some (.slice A n cap) := by simp
  have c1 : (w.alloc (.cells #[.slice A n cap, .map m] 46)).cell? ⟨w.heap.size, 1, none⟩ = some (.map m) := by simp
  replace hg1 := Lib.hid hg1
  replace hg2 := Lib.hid hg2
  replace h2 := Lib.hid h2
  clear h
  go_enter Try.func23, Try.ntmps23
  go_upto_region 1 with fail
  generalize w.alloc (.cells #[.slice A n cap, .map m] 46) = w1 at *
  generalize w.heap.size = pk at *
  cases g with
  | true =>
    go_wp2_with fail
    go_ret
    exact ⟨ret_u32 (hg1.out (by trivial)), x1⟩
  | false =>
    go_wp2_with fail
    refine hn.out.mono ?_
    rintro e w2 ⟨rfl, x2⟩
    have x3 := Lib.hid (x1.trans x2)
    go_wp2_with fail
    go_ret
    exact ⟨ret_u32 (hg2.out (by trivial)), x3.out⟩

def nohI (V : List (Int × Int)) (a b : Int) : Bool := decide (a = 0) || decide (b < nextOf V a)

set_option maxRecDepth 100000 in
set_option maxHeartbeats 2000000 in
theorem noneOrHasK_any (A : Option Addr) (n cap : Nat) (m : Option Nat) (V0 V : List (Int × Int)) (a b : Int) (w : World) (h : KnA w A n cap m V0 V) (h0 : 0 ≤ a) (h1 : a ≤ 4294967295) :
    Calls Try.prog 24 #[knv A n cap m, idv a b] w fun e w' => e = .returned (.bool (nohI V a b)) ∧ Ext w w' := by
  obtain ⟨B, hB⟩ : ∃ B, nohI V a b = B := ⟨_, rfl⟩
  rw [hB]
  have x1 : Ext w ((w.alloc (.cells #[.slice A n cap, .map m] 46)).alloc (.cells #[.int .u32 a, .int .u32 b] 30)) := ((Ext.refl _).alloc _).alloc _
  have c0 : ((w.alloc (.cells #[.slice A n cap, .map m] 46)).alloc (.cells #[.int .u32 a, .int .u32 b] 30)).cell? ⟨w.heap.size, 0, none⟩ = some (.slice A n cap) := by simp [go_sem]
  have c1 : ((w.alloc (.cells #[.slice A n cap, .map m] 46)).alloc (.cells #[.int .u32 a, .int .u32 b] 30)).cell? ⟨w.heap.size, 1, none⟩ = some (.map m) := by simp [go_sem]
  have c2 : ((w.alloc (.cells #[.slice A n cap, .map m] 46)).alloc (.cells #[.int .u32 a, .int .u32 b] 30)).cell? ⟨w.heap.size + 1, 0, none⟩ = some (Vu a) := by simp [go_sem]
  have c3 : ((w.alloc (.cells #[.slice A n cap, .map m] 46)).alloc (.cells #[.int .u32 a, .int .u32 b] 30)).cell? ⟨w.heap.size + 1, 1, none⟩ = some (Vu b) := by simp [go_sem]
  go_enter Try.func24, Try.ntmps24
  have hcn := Lib.hid (fun (W : World) => none_any a b W)
  have hck := Lib.hid (fun (W : World) (hW : Ext w W) => nextK_any A n cap m V0 V a W (h.ext hW) h0 h1)
  clear h
  by_cases hz : a = 0
  · have hz' : (a == 0) = true := by simpa using hz
    replace hB := Lib.hid (show B = true by rw [← hB]; simp [nohI, hz])
    rw [hz'] at hcn
    subst hz
    go_wp2_with fail
    generalize (w.alloc (.cells #[.slice A n cap, .map m] 46)).alloc (.cells #[.int .u32 0, .int .u32 b] 30) = w1 at *
    generalize w.heap.size = pk at *
    replace c0 := cell_regrown c0
    replace c1 := cell_regrown c1
    replace c2 := cell_regrown c2
    replace c3 := cell_regrown c3
    refine wp_region_quiet_below (by kernel_rfl) (by kernel_rfl) ?_
    repeat go_big_quiet_step ((first | with_reducible exact Calls.in_regrown (hcn.out _)))
    refine wpQuiet_nil ?_
    intro _ hw'
    obtain ⟨⟨dq, osq⟩, hw''⟩ := hw'
    subst hw''
    go_wp2
    go_ret
    exact ⟨ret_bool hB.out.symm, x1.trans (Ext.regrown _ _ _)⟩
  · have hz' : (a == 0) = false := by simpa using hz
    replace hB := Lib.hid (show B = decide (b < nextOf V a) by rw [← hB]; simp [nohI, hz])
    rw [hz'] at hcn
    go_wp2_with fail
    generalize (w.alloc (.cells #[.slice A n cap, .map m] 46)).alloc (.cells #[.int .u32 a, .int .u32 b] 30) = w1 at *
    generalize w.heap.size = pk at *
    replace c0 := cell_regrown c0
    replace c1 := cell_regrown c1
    replace c2 := cell_regrown c2
    replace c3 := cell_regrown c3
    refine wp_region_quiet_below (by kernel_rfl) (by kernel_rfl) ?_
    repeat go_big_quiet_step ((first | with_reducible exact Calls.in_regrown (hcn.out _) | with_reducible exact Calls.in_regrown (hck.out _ (x1.trans (Ext.regrown _ _ _)))))
    refine wpQuiet_nil ?_
    intro _ hw'
    obtain ⟨⟨dq, osq⟩, hw''⟩ := hw'
    subst hw''
    go_wp2
    go_ret
    exact ⟨ret_bool hB.out.symm, x1.trans (Ext.regrown _ _ _)⟩

def awI (V : List (Int × Int)) (x : It) : Option I2 :=
  if x.k = nextOf V x.c then (if nohI V x.lc x.lk then (if nohI V x.rc x.rk then none else some (x.rc, x.rk)) else some (x.lc, x.lk)) else some (x.c, IntKind.u32.wrap (x.k - 1))
theorem aw_rdy (V : List (Int × Int)) (x : It) : (awI V x).isSome = !rdyI V x := by
  unfold awI rdyI nohI
  by_cases e0 : x.k = nextOf V x.c
  · rw [if_pos e0, decide_eq_true e0, Bool.true_and]
    cases (decide (x.lc = 0) || decide (x.lk < nextOf V x.lc)) <;> cases (decide (x.rc = 0) || decide (x.rk < nextOf V x.rc)) <;> rfl
  · rw [if_neg e0, decide_eq_false e0]
    rfl

end Go.Proofs.Ytdpmhhfpjpdfiaa

namespace Go.Proofs.Ytdpmhhfpjpdfiaa
open Go.ChangeShapes Go.WideShapes Go.ChangeAt Go.RowKit Go.Sort Go.Maps
set_option linter.unusedVariables false
set_option linter.unusedSimpArgs false
attribute [local go_sem] World.cell?_alloc_some

set_option maxRecDepth 100000 in
set_option maxHeartbeats 4000000 in
theorem awaited_any (A : Option Addr) (n cap : Nat) (m : Option Nat) (V0 V : List (Int × Int)) (x : It) (w : World) (h : KnA w A n cap m V0 V) (hx : wfI x) :
    Calls Try.prog 16 #[knv A n cap m, itv x] w fun e w' => e = .returned (.tuple #[idv ((awI V x).getD (0, 0)).1 ((awI V x).getD (0, 0)).2, .bool (awI V x).isSome]) ∧ Ext w w' := by
  obtain ⟨R, hR⟩ : ∃ R, awI V x = R := ⟨_, rfl⟩
  rw [hR]
  unfold awI at hR
  obtain ⟨hx0, hx1, hx2, hx3, hx4, hx5, hx6, hx7, hx8, hx9, hxa, hxb, _, _⟩ := hx
  have X : Ext w (((w.alloc (.cells #[.slice A n cap, .map m] 46)).alloc (.cells #[.int .u32 x.c, .int .u32 x.k, .int .u32 x.lc, .int .u32 x.lk, .int .u32 x.rc, .int .u32 x.rk, .int .i32 x.ch] 32)).alloc (.cells #[.int .u32 0, .int .u32 0] 30)) := (((Ext.refl _).alloc _).alloc _).alloc _
  have a0 : (((w.alloc (.cells #[.slice A n cap, .map m] 46)).alloc (.cells #[.int .u32 x.c, .int .u32 x.k, .int .u32 x.lc, .int .u32 x.lk, .int .u32 x.rc, .int .u32 x.rk, .int .i32 x.ch] 32)).alloc (.cells #[.int .u32 0, .int .u32 0] 30)).cell? ⟨w.heap.size, 0, none⟩ = some (.slice A n cap) := by simp [go_sem]
  have a1 : (((w.alloc (.cells #[.slice A n cap, .map m] 46)).alloc (.cells #[.int .u32 x.c, .int .u32 x.k, .int .u32 x.lc, .int .u32 x.lk, .int .u32 x.rc, .int .u32 x.rk, .int .i32 x.ch] 32)).alloc (.cells #[.int .u32 0, .int .u32 0] 30)).cell? ⟨w.heap.size, 1, none⟩ = some (.map m) := by simp [go_sem]
  have b0 : (((w.alloc (.cells #[.slice A n cap, .map m] 46)).alloc (.cells #[.int .u32 x.c, .int .u32 x.k, .int .u32 x.lc, .int .u32 x.lk, .int .u32 x.rc, .int .u32 x.rk, .int .i32 x.ch] 32)).alloc (.cells #[.int .u32 0, .int .u32 0] 30)).cell? ⟨w.heap.size + 1, 0, none⟩ = some (Vu x.c) := by simp [go_sem]
  have b1 : (((w.alloc (.cells #[.slice A n cap, .map m] 46)).alloc (.cells #[.int .u32 x.c, .int .u32 x.k, .int .u32 x.lc, .int .u32 x.lk, .int .u32 x.rc, .int .u32 x.rk, .int .i32 x.ch] 32)).alloc (.cells #[.int .u32 0, .int .u32 0] 30)).cell? ⟨w.heap.size + 1, 1, none⟩ = some (Vu x.k) := by simp [go_sem]
  have b2 : (((w.alloc (.cells #[.slice A n cap, .map m] 46)).alloc (.cells #[.int .u32 x.c, .int .u32 x.k, .int .u32 x.lc, .int .u32 x.lk, .int .u32 x.rc, .int .u32 x.rk, .int .i32 x.ch] 32)).alloc (.cells #[.int .u32 0, .int .u32 0] 30)).cell? ⟨w.heap.size + 1, 2, none⟩ = some (Vu x.lc) := by simp [go_sem]
  have b3 : (((w.alloc (.cells #[.slice A n cap, .map m] 46)).alloc (.cells #[.int .u32 x.c, .int .u32 x.k, .int .u32 x.lc, .int .u32 x.lk, .int .u32 x.rc, .int .u32 x.rk, .int .i32 x.ch] 32)).alloc (.cells #[.int .u32 0, .int .u32 0] 30)).cell? ⟨w.heap.size + 1, 3, none⟩ = some (Vu x.lk) := by simp [go_sem]
  have b4 : (((w.alloc (.cells #[.slice A n cap, .map m] 46)).alloc (.cells #[.int .u32 x.c, .int .u32 x.k, .int .u32 x.lc, .int .u32 x.lk, .int .u32 x.rc, .int .u32 x.rk, .int .i32 x.ch] 32)).alloc (.cells #[.int .u32 0, .int .u32 0] 30)).cell? ⟨w.heap.size + 1, 4, none⟩ = some (Vu x.rc) := by simp [go_sem]
  have b5 : (((w.alloc (.cells #[.slice A n cap, .map m] 46)).alloc (.cells #[.int .u32 x.c, .int .u32 x.k, .int .u32 x.lc, .int .u32 x.lk, .int .u32 x.rc, .int .u32 x.rk, .int .i32 x.ch] 32)).alloc (.cells #[.int .u32 0, .int .u32 0] 30)).cell? ⟨w.heap.size + 1, 5, none⟩ = some (Vu x.rk) := by simp [go_sem]
  have z0 : (((w.alloc (.cells #[.slice A n cap, .map m] 46)).alloc (.cells #[.int .u32 x.c, .int .u32 x.k, .int .u32 x.lc, .int .u32 x.lk, .int .u32 x.rc, .int .u32 x.rk, .int .i32 x.ch] 32)).alloc (.cells #[.int .u32 0, .int .u32 0] 30)).cell? ⟨w.heap.size + 1 + 1, 0, none⟩ = some (Vu 0) := by simp [go_sem]
  have z1 : (((w.alloc (.cells #[.slice A n cap, .map m] 46)).alloc (.cells #[.int .u32 x.c, .int .u32 x.k, .int .u32 x.lc, .int .u32 x.lk, .int .u32 x.rc, .int .u32 x.rk, .int .i32 x.ch] 32)).alloc (.cells #[.int .u32 0, .int .u32 0] 30)).cell? ⟨w.heap.size + 1 + 1, 1, none⟩ = some (Vu 0) := by simp [go_sem]
  have g0 : (((w.alloc (.cells #[.slice A n cap, .map m] 46)).alloc (.cells #[.int .u32 x.c, .int .u32 x.k, .int .u32 x.lc, .int .u32 x.lk, .int .u32 x.rc, .int .u32 x.rk, .int .i32 x.ch] 32)).alloc (.cells #[.int .u32 0, .int .u32 0] 30)).frozen? ⟨w.heap.size + 1 + 1, 0, none⟩ = false := by simp [go_sem]
  have g1 : (((w.alloc (.cells #[.slice A n cap, .map m] 46)).alloc (.cells #[.int .u32 x.c, .int .u32 x.k, .int .u32 x.lc, .int .u32 x.lk, .int .u32 x.rc, .int .u32 x.rk, .int .i32 x.ch] 32)).alloc (.cells #[.int .u32 0, .int .u32 0] 30)).frozen? ⟨w.heap.size + 1 + 1, 1, none⟩ = false := by simp [go_sem]
  have hk := Lib.hid (fun (W : World) (hW : Ext w W) => nextK_any A n cap m V0 V x.c W (h.ext hW) hx0 hx1)
  have hl := Lib.hid (fun (W : World) (hW : Ext w W) => noneOrHasK_any A n cap m V0 V x.lc x.lk W (h.ext hW) hx4 hx5)
  have hr := Lib.hid (fun (W : World) (hW : Ext w W) => noneOrHasK_any A n cap m V0 V x.rc x.rk W (h.ext hW) hx8 hx9)
  clear h hx4 hx5 hx8 hx9 hx6 hx7 hxa hxb
  go_enter Try.func16, Try.ntmps16
  go_upto_region 1 with fail
  have hsz : w.heap.size + 1 + 1 = w.heap.size + 2 := rfl
  have hle : w.heap.size ≤ w.heap.size := Nat.le_refl _
  obtain ⟨base, hbase⟩ : ∃ base, w.heap.size = base := ⟨_, rfl⟩
  have hfar : Hid (∀ W W' : World, Ext w W → ∀ u v, W' = (W.setCell ⟨base + 1 + 1, 0, none⟩ u).setCell ⟨base + 1 + 1, 1, none⟩ v → Ext w W') := Lib.hid (fun W W' hW u v e => by rw [e]; exact (hW.setCell (by rw [← hbase]; show _ ≤ _ + 1 + 1; omega) u).setCell (by rw [← hbase]; show _ ≤ _ + 1 + 1; omega) v)
  generalize (((w.alloc (.cells #[.slice A n cap, .map m] 46)).alloc (.cells #[.int .u32 x.c, .int .u32 x.k, .int .u32 x.lc, .int .u32 x.lk, .int .u32 x.rc, .int .u32 x.rk, .int .i32 x.ch] 32)).alloc (.cells #[.int .u32 0, .int .u32 0] 30)) = w1 at *
  rw [hbase] at *
  clear hsz hle
  replace X := Lib.hid X
  go_cut [14] (fun s wx => s = .bool (decide (x.k ≠ nextOf V x.c)) ∧ Hid (Ext w1 wx))
  case first =>
    have qa0 := cell_regrown a0
    have qa1 := cell_regrown a1
    have qb0 := cell_regrown b0
    have qb1 := cell_regrown b1
    have qb2 := cell_regrown b2
    have qb3 := cell_regrown b3
    have qb4 := cell_regrown b4
    have qb5 := cell_regrown b5
    have qz0 := cell_regrown z0
    have qz1 := cell_regrown z1
    clear a0 a1 b0 b1 b2 b3 b4 b5 z0 z1 g0 g1
    refine wp_region_quiet_below (by kernel_rfl) (by kernel_rfl) ?_
    repeat go_big_quiet_step ((first | with_reducible exact Calls.in_regrown (hk.out _ (X.out.trans (Ext.regrown _ _ _)))))
    refine wpQuiet_nil ?_
    intro _ hw'
    obtain ⟨⟨dq, osq⟩, hw''⟩ := hw'
    subst hw''
    go_wp2_with fail
    go_meet
    refine ⟨?_, Lib.hid (Ext.regrown _ _ _)⟩
    congr 1
    rw [Bool.eq_iff_iff]
    simp
  case rest =>
    obtain ⟨rfl, x1⟩ := hcut
    replace X := Lib.hid (X.out.trans x1.out)
    replace x1 := x1.out
    replace a0 := x1.keep a0
    replace a1 := x1.keep a1
    replace b0 := x1.keep b0
    replace b1 := x1.keep b1
    replace b2 := x1.keep b2
    replace b3 := x1.keep b3
    replace b4 := x1.keep b4
    replace b5 := x1.keep b5
    replace g0 := x1.thaw z0 g0
    replace g1 := x1.thaw z1 g1
    replace z0 := x1.keep z0
    replace z1 := x1.keep z1
    clear x1
    by_cases e0 : x.k = nextOf V x.c
    · have e0' : decide (x.k ≠ nextOf V x.c) = false := decide_eq_false (fun h => h e0)
      rw [if_pos e0] at hR
      rw [e0'] at *
      clear e0' e0
      go_upto_region 3 with fail
      go_wp2_with fail
      refine (hl.out _ X.out).mono ?_
      rintro e w2 ⟨rfl, x1⟩
      replace X := Lib.hid (X.out.trans x1)
      replace a0 := x1.keep a0
      replace a1 := x1.keep a1
      replace b0 := x1.keep b0
      replace b1 := x1.keep b1
      replace b2 := x1.keep b2
      replace b3 := x1.keep b3
      replace b4 := x1.keep b4
      replace b5 := x1.keep b5
      replace g0 := x1.thaw z0 g0
      replace g1 := x1.thaw z1 g1
      replace z0 := x1.keep z0
      replace z1 := x1.keep z1
      clear x1
      cases e1 : nohI V x.lc x.lk with
      | false =>
        rw [e1] at hR
        replace hR := Lib.hid (show R = some (x.lc, x.lk) by rw [← hR]; rfl)
        go_wp2_with fail
        rw [hR.out]
        exact bodyPost_ret (v := .tuple #[idv x.lc x.lk, .bool true]) (by simp [results, Try.results16, go_sem, z0, z1]) rfl ⟨rfl, hfar.out _ _ X.out _ _ rfl⟩
      | true =>
        rw [e1] at hR
        go_wp2_with fail
        refine (hr.out _ X.out).mono ?_
        rintro e w3 ⟨rfl, x1⟩
        replace X := Lib.hid (X.out.trans x1)
        replace a0 := x1.keep a0
        replace a1 := x1.keep a1
        replace b0 := x1.keep b0
        replace b1 := x1.keep b1
        replace b2 := x1.keep b2
        replace b3 := x1.keep b3
        replace b4 := x1.keep b4
        replace b5 := x1.keep b5
        replace g0 := x1.thaw z0 g0
        replace g1 := x1.thaw z1 g1
        replace z0 := x1.keep z0
        replace z1 := x1.keep z1
        clear x1
        cases e2 : nohI V x.rc x.rk with
        | false =>
          rw [e2] at hR
          replace hR := Lib.hid (show R = some (x.rc, x.rk) by rw [← hR]; rfl)
          go_wp2_with fail
          rw [hR.out]
          exact bodyPost_ret (v := .tuple #[idv x.rc x.rk, .bool true]) (by simp [results, Try.results16, go_sem, z0, z1]) rfl ⟨rfl, hfar.out _ _ X.out _ _ rfl⟩
        | true =>
          rw [e2] at hR
          replace hR := Lib.hid (show R = none by rw [← hR]; rfl)
          go_wp2_with fail
          rw [hR.out]
          exact bodyPost_ret (v := .tuple #[idv 0 0, .bool false]) (by simp [results, Try.results16, go_sem, z0, z1]) rfl ⟨rfl, hfar.out _ _ X.out _ _ rfl⟩
    · have e0' : decide (x.k ≠ nextOf V x.c) = true := decide_eq_true e0
      rw [if_neg e0] at hR
      rw [e0'] at *
      clear e0' e0
      replace hR := Lib.hid hR.symm
      go_wp2_with fail
      rw [hR.out]
      exact bodyPost_ret (v := .tuple #[idv x.c (IntKind.u32.wrap (x.k - 1)), .bool true]) (by simp [results, Try.results16, go_sem, z0, z1]; rw [IntKind.wrap_u32]) rfl ⟨rfl, hfar.out _ _ X.out _ _ rfl⟩

set_option maxHeartbeats 1000000 in
theorem ready_any (A : Option Addr) (n cap : Nat) (V : List (Int × Int)) (x : It) (w : World) (hv : Vec w A V) (hn : V.length = n) (hm : mayFrom 0 V = true) (hb : n ≤ 1000) (hx : wfI x) :
    Calls Try.prog 8 #[.slice A n cap, itv x] w fun e w' => e = .returned (.bool (rdyI V x)) ∧ Ext w w' := by
  have x1 : Ext w (w.alloc (.cells #[.int .u32 x.c, .int .u32 x.k, .int .u32 x.lc, .int .u32 x.lk, .int .u32 x.rc, .int .u32 x.rk, .int .i32 x.ch] 32)) := (Ext.refl _).alloc _
  have hc := Lib.hid (fun (W : World) (hW : Ext w W) => awaited_any A n cap none V V x W ⟨hv.ext hW, hn, hm, hb, .inl ⟨rfl, rfl⟩⟩ hx)
  have hr := Lib.hid (aw_rdy V x)
  clear hv hn hm hb hx
  go_enter Try.func8, Try.ntmps8
  go_wp2_with fail
  refine (hc.out _ x1).mono ?_
  rintro e w1 ⟨rfl, x2⟩
  have X := Lib.hid (x1.trans x2)
  clear x1 x2
  generalize awI V x = R at *
  go_wp2_with fail
  go_ret
  exact ⟨ret_bool (by have := hr.out; cases R <;> simp_all), X.out.alloc _⟩

end Go.Proofs.Ytdpmhhfpjpdfiaa

namespace Go.Proofs.Ytdpmhhfpjpdfiaa
open Go.ChangeShapes Go.WideShapes Go.ChangeAt Go.RowKit Go.Sort Go.Maps
set_option linter.unusedVariables false
set_option linter.unusedSimpArgs false

inductive Tg where
  | t | s | m | x | c | o | r
  | w (a : I2)
structure TkV where
  bS : Nat
  bW : Nat
  vX : Value
  vC : Value
  vo : Value
  vr : Value
  Wt : List (I2 × Value × List Int)
  tg : Nat → Tg
def cellsT (A : Option Addr) (n cap : Nat) (g : TkV) : Array Value := #[.slice A n cap, .map (some g.bS), g.vX, g.vC, g.vo, g.vr, .map (some g.bW)]
def mapT (Wt : List (I2 × Value × List Int)) : List (I2 × Value) := Wt.map fun t => (t.1, t.2.1)

structure TkS (w0 W : World) (T : Nat) (A : Option Addr) (n cap : Nat) (V0 V : List (Int × Int)) (Xs : List It) (bs : List Bool) (C : List It) (hs : List Int) (g : TkV) : Prop where
  tb : TB W T (cellsT A n cap g)
  vec : Vec w0 A V0
  kn : ∃ nn D, nn ≤ C.length ∧ MapU W g.bS nn D ∧ MapV D V0 V
  its : OwnI w0 W g.vX Xs
  came : OwnG 4 1 w0 W g.vC bs.length (bs.map Value.bool)
  come : OwnI w0 W g.vo C
  ready : OwnZ w0 W g.vr hs
  wm : MapW W g.bW (mapT g.Wt)
  wl : ∀ t ∈ g.Wt, OwnZ w0 W t.2.1 t.2.2
  keys : (g.Wt.map (·.1)).Nodup
  low : Ext w0 W
  gT : g.tg T = .t
  gS : g.tg g.bS = .s
  gM : g.tg g.bW = .m
  gX : ∀ b, g.vX.ownBlock = some b → g.tg b = .x
  gC : ∀ b, g.vC.ownBlock = some b → g.tg b = .c
  go : ∀ b, g.vo.ownBlock = some b → g.tg b = .o
  gr : ∀ b, g.vr.ownBlock = some b → g.tg b = .r
  gw : ∀ t ∈ g.Wt, ∀ b, t.2.1.ownBlock = some b → g.tg b = .w t.1
  bT : w0.heap.size ≤ T
  bbS : w0.heap.size ≤ g.bS
  bbW : w0.heap.size ≤ g.bW

theorem OwnG.ts {t : TypeId} {s : Nat} {S : Nat → Prop} {w0 W W' : World} {v : Value} {n : Nat} {xs : List Value} (h : OwnG t s w0 W v n xs) (hx : TSb S W W') (hn : ∀ g, v.ownBlock = some g → ¬ S g) : OwnG t s w0 W' v n xs := by
  refine ⟨h.1, ?_⟩
  rcases h.2 with h0 | ⟨g, cap, cur, e, hbase, hgb, r⟩
  · exact .inl h0
  · exact .inr ⟨g, cap, cur, e, hbase, (hx.block g (Array.getElem?_eq_some_iff.1 hgb).1 (hn g (by rw [e]; rfl))).trans hgb, r⟩
theorem MapU.of {w w' : World} {b n : Nat} {D : DataW Unit} (h : MapU w b n D) (e : w'.heap[b]? = w.heap[b]?) : MapU w' b n D := by
  obtain ⟨es, clock, hb, F, hs, hD⟩ := h
  exact ⟨es, clock, e.trans hb, F, hs, hD⟩

section
variable {w0 W W' : World} {T : Nat} {A : Option Addr} {n cap : Nat} {V0 V : List (Int × Int)} {Xs : List It} {bs : List Bool} {C : List It} {hs : List Int} {g : TkV} {S : Nat → Prop}
theorem TkS.tbT (h : TkS w0 W T A n cap V0 V Xs bs C hs g) (hx : TSb S W W') (hS : ∀ b, S b → g.tg b ≠ .t) : TB W' T (cellsT A n cap g) := h.tb.ts hx fun e => hS T e h.gT
theorem TkS.knT (h : TkS w0 W T A n cap V0 V Xs bs C hs g) (hx : TSb S W W') (hS : ∀ b, S b → g.tg b ≠ .s) : ∃ nn D, nn ≤ C.length ∧ MapU W' g.bS nn D ∧ MapV D V0 V := by
  obtain ⟨nn, D, h0, h1, h2⟩ := h.kn
  exact ⟨nn, D, h0, h1.of (hx.block _ h1.lt fun e => hS _ e h.gS), h2⟩
theorem TkS.itsT (h : TkS w0 W T A n cap V0 V Xs bs C hs g) (hx : TSb S W W') (hS : ∀ b, S b → g.tg b ≠ .x) : OwnI w0 W' g.vX Xs := OwnG.ts h.its hx fun b hb e => hS b e (h.gX b hb)
theorem TkS.cameT (h : TkS w0 W T A n cap V0 V Xs bs C hs g) (hx : TSb S W W') (hS : ∀ b, S b → g.tg b ≠ .c) : OwnG 4 1 w0 W' g.vC bs.length (bs.map Value.bool) := OwnG.ts h.came hx fun b hb e => hS b e (h.gC b hb)
theorem TkS.comeT (h : TkS w0 W T A n cap V0 V Xs bs C hs g) (hx : TSb S W W') (hS : ∀ b, S b → g.tg b ≠ .o) : OwnI w0 W' g.vo C := OwnG.ts h.come hx fun b hb e => hS b e (h.go b hb)
theorem TkS.readyT (h : TkS w0 W T A n cap V0 V Xs bs C hs g) (hx : TSb S W W') (hS : ∀ b, S b → g.tg b ≠ .r) : OwnZ w0 W' g.vr hs := OwnG.ts h.ready hx fun b hb e => hS b e (h.gr b hb)
theorem TkS.wmT (h : TkS w0 W T A n cap V0 V Xs bs C hs g) (hx : TSb S W W') (hS : ∀ b, S b → g.tg b ≠ .m) : MapW W' g.bW (mapT g.Wt) := h.wm.of (hx.block _ h.wm.lt fun e => hS _ e h.gM)
theorem TkS.wlT (h : TkS w0 W T A n cap V0 V Xs bs C hs g) (hx : TSb S W W') (hS : ∀ b, S b → ∀ a, g.tg b ≠ .w a) : ∀ t ∈ g.Wt, OwnZ w0 W' t.2.1 t.2.2 := fun t ht => OwnG.ts (h.wl t ht) hx fun b hb e => hS b e _ (h.gw t ht b hb)
theorem TkS.lowT (h : TkS w0 W T A n cap V0 V Xs bs C hs g) (hx : TSb S W W') (hS : ∀ b, S b → w0.heap.size ≤ b) : Ext w0 W' := hx.down h.low hS

theorem TkS.ext (h : TkS w0 W T A n cap V0 V Xs bs C hs g) (hx : Ext W W') : TkS w0 W' T A n cap V0 V Xs bs C hs g := by
  have ht : TSb (fun _ => False) W W' := TSb.ext hx
  exact { h with
    tb := h.tbT ht (fun _ e => e.elim), kn := h.knT ht (fun _ e => e.elim), its := h.itsT ht (fun _ e => e.elim), came := h.cameT ht (fun _ e => e.elim), come := h.comeT ht (fun _ e => e.elim),
    ready := h.readyT ht (fun _ e => e.elim), wm := h.wmT ht (fun _ e => e.elim), wl := h.wlT ht (fun _ e => e.elim), low := h.lowT ht (fun _ e => e.elim) }
theorem TkS.knA (h : TkS w0 W T A n cap V0 V Xs bs C hs g) (hn : V0.length = n) (hm : mayFrom 0 V0 = true) (hb : n ≤ 1000) : KnA W A n cap (some g.bS) V0 V := by
  obtain ⟨nn, D, _, h1, h2⟩ := h.kn
  exact ⟨h.vec.ext h.low, hn, hm, hb, .inr ⟨_, _, D, rfl, h1, h2⟩⟩
theorem TkS.hps (h : TkS w0 W T A n cap V0 V Xs bs C hs g) : HpS w0 W T (cellsT A n cap g) g.vr hs :=
  ⟨h.tb, rfl, h.ready, fun e => (by have h1 := h.gr T e; rw [h.gT] at h1; cases h1), h.low.size⟩
end

end Go.Proofs.Ytdpmhhfpjpdfiaa
