/-
  Contract of chunkOf; no claim stands here.
-/
import Derived.Test.YtmpomammieenjaaOV
import Derived.Test.YtmpomammieenjaaOW
import Derived.Test.YtmpomammieenjaaOU
namespace Go.Proofs.Ytmpomammieenjaa
open Go.ChangeShapes Go.WideShapes Go.ChangeAt Go.RowKit Go.Sort
set_option linter.unusedVariables false
set_option linter.unusedSimpArgs false
attribute [local go_sem] World.cell?_alloc_some

def ch8Tab (pb eb : Nat) (x : En) (lo2 hi2 : Int) : SoftTab := [(30, fun z9 W => z9 = .pointer (some ⟨pb, 0, none⟩)),
  (31, fun z9 W => z9 = .pointer (some ⟨pb, 0, none⟩)),
  (32, fun z9 W => z9 = .pointer (some ⟨eb, 0, none⟩)),
  (33, fun z9 W => z9 = idv x.c x.k),
  (34, fun z9 W => z9 = Vq (keyV x.c x.k)),
  (35, fun z9 W => z9 = .pointer (some ⟨eb, 0, none⟩)),
  (36, fun z9 W => z9 = idv x.c x.k),
  (37, fun z9 W => z9 = Vq (keyV x.c x.k)),
  (38, fun z9 W => z9 = .pointer (some ⟨pb, 0, none⟩)),
  (39, fun z9 W => z9 = .pointer (some ⟨pb, 6, none⟩)),
  (41, fun z9 W => True)]
theorem ch8Tab_mono (pb eb : Nat) (x : En) (lo2 hi2 : Int) (Rel : World → World → Prop) : SoftMonoR Rel (ch8Tab pb eb x lo2 hi2) := by
  intro p hp v W W' h hx
  simp only [ch8Tab, List.mem_cons, List.not_mem_nil, or_false] at hp
  rcases hp with rfl | rfl | rfl | rfl | rfl | rfl | rfl | rfl | rfl | rfl | rfl
  all_goals exact h

def ch9Tab (pb eb : Nat) (x : En) (lo2 hi2 : Int) : SoftTab := [(42, fun z9 W => z9 = .pointer (some ⟨pb, 0, none⟩)),
  (43, fun z9 W => z9 = .pointer (some ⟨pb, 0, none⟩)),
  (44, fun z9 W => z9 = .pointer (some ⟨pb, 0, none⟩)),
  (45, fun z9 W => z9 = .pointer (some ⟨pb, 0, none⟩)),
  (46, fun z9 W => z9 = .pointer (some ⟨pb, 6, none⟩)),
  (47, fun z9 W => z9 = Vq lo2),
  (48, fun z9 W => z9 = .pointer (some ⟨eb, 0, none⟩)),
  (49, fun z9 W => z9 = idv x.c x.k),
  (50, fun z9 W => z9 = Vq (keyV x.c x.k)),
  (51, fun z9 W => z9 = Vq (if keyV x.c x.k < lo2 then keyV x.c x.k else lo2)),
  (52, fun z9 W => z9 = .pointer (some ⟨pb, 0, none⟩)),
  (53, fun z9 W => z9 = .pointer (some ⟨pb, 0, none⟩)),
  (54, fun z9 W => z9 = .pointer (some ⟨pb, 7, none⟩)),
  (55, fun z9 W => z9 = Vq hi2),
  (56, fun z9 W => z9 = .pointer (some ⟨eb, 0, none⟩)),
  (57, fun z9 W => z9 = idv x.c x.k),
  (58, fun z9 W => z9 = Vq (keyV x.c x.k)),
  (59, fun z9 W => z9 = Vq (if hi2 < keyV x.c x.k then keyV x.c x.k else hi2)),
  (60, fun z9 W => z9 = .pointer (some ⟨pb, 0, none⟩)),
  (61, fun z9 W => z9 = .pointer (some ⟨pb, 6, none⟩)),
  (63, fun z9 W => True)]
theorem ch9Tab_mono (pb eb : Nat) (x : En) (lo2 hi2 : Int) (Rel : World → World → Prop) : SoftMonoR Rel (ch9Tab pb eb x lo2 hi2) := by
  intro p hp v W W' h hx
  simp only [ch9Tab, List.mem_cons, List.not_mem_nil, or_false] at hp
  rcases hp with rfl | rfl | rfl | rfl | rfl | rfl | rfl | rfl | rfl | rfl | rfl | rfl | rfl | rfl | rfl | rfl | rfl | rfl | rfl | rfl | rfl
  all_goals exact h

def ChB (W : World) (pb : Nat) (c0 : Value) (n s lo hi : Int) : Prop := W.heap[pb]? = some (.cells #[c0, Vnil, Vnil, Vi 0, Vi n, Vi s, Vq lo, Vq hi] 28 (0, 0))
theorem ChB.ext {W W' : World} {pb : Nat} {c0 : Value} {n s lo hi : Int} (h : ChB W pb c0 n s lo hi) (hx : Ext W W') : ChB W' pb c0 n s lo hi := by
  unfold ChB at *
  rw [RowKit.Below.block hx pb (Array.getElem?_eq_some_iff.1 h).1]; exact h
theorem ChB.cells {W : World} {pb : Nat} {c0 : Value} {n s lo hi : Int} (h : ChB W pb c0 n s lo hi) : PtC W pb c0 Vnil Vnil 0 n s lo hi :=
  ⟨cell_of_row W pb 0 _ _ _ h, cell_of_row W pb 1 _ _ _ h, cell_of_row W pb 2 _ _ _ h, cell_of_row W pb 3 _ _ _ h, cell_of_row W pb 4 _ _ _ h, cell_of_row W pb 5 _ _ _ h, cell_of_row W pb 6 _ _ _ h, cell_of_row W pb 7 _ _ _ h⟩
theorem ChB.frozen {W : World} {pb : Nat} {c0 : Value} {n s lo hi : Int} (h : ChB W pb c0 n s lo hi) (j : Nat) : W.frozen? ⟨pb, j, none⟩ = false := frozen_of_row W pb j _ _ h
theorem ChB.set5 {W : World} {pb : Nat} {c0 : Value} {n s lo hi : Int} (h : ChB W pb c0 n s lo hi) (s' : Int) : ChB (W.setCell ⟨pb, 5, none⟩ (Vi s')) pb c0 n s' lo hi := heap_setCell_same _ _ 5 _ _ _ h
theorem ChB.set6 {W : World} {pb : Nat} {c0 : Value} {n s lo hi : Int} (h : ChB W pb c0 n s lo hi) (s' : Int) : ChB (W.setCell ⟨pb, 6, none⟩ (Vq s')) pb c0 n s s' hi := heap_setCell_same _ _ 6 _ _ _ h
theorem ChB.set7 {W : World} {pb : Nat} {c0 : Value} {n s lo hi : Int} (h : ChB W pb c0 n s lo hi) (s' : Int) : ChB (W.setCell ⟨pb, 7, none⟩ (Vq s')) pb c0 n s lo s' := heap_setCell_same _ _ 7 _ _ _ h
theorem cell_set1 {W : World} {q o : Nat} {v : Value} (p j : Nat) (u : Value) (hne : q ≠ p) (h : W.cell? ⟨q, o, none⟩ = some v) : (W.setCell ⟨p, j, none⟩ u).cell? ⟨q, o, none⟩ = some v := by
  rw [cell_heap (heap_setCell_other _ _ _ _ hne)]; exact h
def ChRel (w : World) (pb : Nat) (c0 : Value) (l : List En) (n : Nat) (i : Value) (W : World) : Prop :=
  ∃ j : Nat, j ≤ n ∧ i = Vi j ∧ Ext w W ∧ ChB W pb c0 n (shownE (l.take j)).length (loL (l.take j)) (hiL (l.take j))

set_option maxRecDepth 100000 in
set_option maxHeartbeats 16000000 in
theorem chunkOf_any {G : Nat → Prop} (A : Option Addr) (n cap : Nat) (l : List En) (w : World) (hv : EnS w A l) (hn : l.length = n) (hcap : n ≤ cap) (hb : n ≤ 100000) (hG : Up G w) (hA : 0 < n → ∃ k o, A = some ⟨k, o, none⟩ ∧ G k) :
    Calls Try.prog 72 #[.slice A n cap] w (RetN G w (.leaf l)) := by
  obtain ⟨pb, hpb⟩ : ∃ pb, w.heap.size = pb := ⟨_, rfl⟩
  obtain ⟨w0, hw0⟩ : ∃ W, w.alloc (.cells #[.slice A n cap, Vnil, Vnil, Vi 0, Vi n, Vi 0, Vq 0, Vq 0] 28) = W := ⟨_, rfl⟩
  have x0 : Ext w w0 := by rw [← hw0]; exact (Ext.refl w).alloc _
  have b0 : ChB w0 pb (.slice A n cap) n 0 0 0 := by rw [← hw0, ← hpb]; exact heap_alloc_new w _
  have hend := Lib.hid (show ∀ W, Ext w W → ChB W pb (.slice A n cap) n (shownE l).length (loL l) (hiL l) → RetN G w (.leaf l) (.returned (Vp pb)) W by
    intro W hx hB
    subst hn
    exact ⟨_, rfl, ⟨pb, rfl, hG _ (by omega), _, _, _, hB.cells, rfl, rfl, A, cap, rfl, hcap, hv.ext hx, hA⟩, hx⟩)
  replace hn := Lib.hid hn
  replace hv := Lib.hid hv
  have hpbw : w.heap.size ≤ pb := by omega
  replace hpb := Lib.hid hpb
  replace hw0 := Lib.hid hw0
  clear hA hG
  go_enter Try.func72, Try.ntmps72
  go_wp2
  have hE0 : ChRel w pb (.slice A n cap) l n (Vi 0) (w.alloc (.cells #[.slice A n cap, Vnil, Vnil, Vi 0, Vi n, Vi 0, Vq 0, Vq 0] 28)) := by
    rw [hw0.out]; exact ⟨0, Nat.zero_le _, rfl, x0, by simpa [shownE, shownG, loL, hiL] using b0⟩
  rw [hpb.out]
  clear hw0 x0 b0 hpb
  go_loopw [13] (ChRel w pb (.slice A n cap) l n) (fun i _ => n - (intOf i).toNat)
  case atStart => exact hE0
  case round =>
    clear hE0
    obtain ⟨j, hj, rfl, hx, hB⟩ := hrel
    by_cases hlt : j < n
    · obtain ⟨b, o, x, rfl, hp, d⟩ := (hv.out.ext hx).at (k := j) (by rw [hn.out]; exact hlt)
      obtain ⟨c0, c1, c2, c3⟩ := d
      have hj1 : (0 : Int) ≤ (j : Int) := by omega
      have hj2 : (j : Int) < (n : Int) := by omega
      obtain ⟨eb, heb⟩ : ∃ eb, wr.heap.size = eb := ⟨_, rfl⟩
      obtain ⟨W1, hW1⟩ : ∃ W, wr.alloc (.cells #[.int .u32 x.c, .int .u32 x.k, .int .i32 x.ch, .bool x.g] 79) = W := ⟨_, rfl⟩
      have y1 : Ext wr W1 := by rw [← hW1]; exact (Ext.refl wr).alloc _
      have e0 : W1.cell? ⟨eb, 0, none⟩ = some (Vu x.c) := by rw [← hW1, ← heb]; simp [go_sem]
      have e1 : W1.cell? ⟨eb, 1, none⟩ = some (Vu x.k) := by rw [← hW1, ← heb]; simp [go_sem]
      have hB1 := hB.ext y1
      have hX1 := hx.trans y1
      have hne : eb ≠ pb := by
        have := (Array.getElem?_eq_some_iff.1 hB).1
        omega
      have hsh := shown_take hp
      have hke : keyE x = keyV x.c x.k := rfl
      replace hW1 := Lib.hid hW1
      replace heb := Lib.hid heb
      rcases Nat.eq_zero_or_pos j with h0 | h0
      · subst h0
        obtain ⟨hlo, hhi⟩ := loL_first hp
        simp only [Nat.zero_mul, Nat.add_zero] at c0 c1 c2 c3
        obtain ⟨lo2, hlo2⟩ : ∃ z, loL (l.take 0) = z := ⟨_, rfl⟩
        obtain ⟨hi2, hhi2⟩ : ∃ z, hiL (l.take 0) = z := ⟨_, rfl⟩
        rw [hlo2, hhi2] at hB1 hB
        have hl2 := Lib.hid (show loL (l.take (0 + 1)) = (if keyV x.c x.k < keyV x.c x.k then keyV x.c x.k else keyV x.c x.k) by rw [show (0 + 1 : Nat) = 1 from rfl, hlo, hke]; simp)
        have hh2 := Lib.hid (show hiL (l.take (0 + 1)) = (if keyV x.c x.k < keyV x.c x.k then keyV x.c x.k else keyV x.c x.k) by rw [show (0 + 1 : Nat) = 1 from rfl, hhi, hke]; simp)
        clear hlo hhi hlo2 hhi2
        cases hg : x.g with
        | true =>
          rw [hg] at c3 hsh
          have hs2 := Lib.hid (show (((shownE (l.take (0 + 1))).length : Nat) : Int) = ((shownE (l.take 0)).length : Int) by rw [hsh]; simp)
          replace hW1 := hW1.out
          rw [hg] at hW1
          replace hW1 := Lib.hid hW1
          go_wp2_with fail
          rw [hW1.out, heb.out]
          have hB2 := hB1
          have hX2 := hX1
          clear hB1 hX1 hW1 heb hB hx c0 c1 c2 c3 hsh hp hj1 hj2
          obtain ⟨s2, hsd⟩ : ∃ z : Int, ((shownE (l.take 0)).length : Int) = z := ⟨_, rfl⟩
          rw [hsd] at hB2
          replace hs2 := Lib.hid (hs2.out.trans hsd)
          clear hsd
          refine wp_soft_frameW (RX pb) 10 (fun W => ChB W pb (.slice (some ⟨b, o, none⟩) n cap) n s2 lo2 hi2) (fun W => ChB W pb (.slice (some ⟨b, o, none⟩) n cap) n s2 (keyV x.c x.k) hi2) 11 (ch8Tab pb eb x lo2 hi2) (by kernel_rfl) (by kernel_rfl) (fun _ _ _ => RX.trans) (fun _ _ => RX.ext) (fun _ _ h hh => hh.ext h) (fun _ _ h hh => hh.ext h) (by omega) hB2 rfl (by show List.Nodup [30, 31, 32, 33, 34, 35, 36, 37, 38, 39, 41]; decide) (by show ∀ d ∈ [30, 31, 32, 33, 34, 35, 36, 37, 38, 39, 41], d < 66; decide) (ch8Tab_mono pb eb x lo2 hi2 _) ?_ ⟨?_, ?_, ?_, ?_, ?_, ?_, ?_, ?_, ?_, ?_, ?_, trivial⟩
          · intro W vs hT hR hPost
            match vs, hT with
            | [v0, v1, v2, v3, v4, v5, v6, v7, v8, v9, v10], ⟨e0, e1, e2, e3, e4, e5, e6, e7, e8, e9, _, _⟩ =>
              simp only [ch8Tab, List.map_cons, List.map_nil, List.zip_cons_cons, List.zip_nil_left, putAll, List.setIfInBounds_toArray, List.set_cons_zero, List.set_cons_succ, List.drop_succ_cons, List.drop_zero]
              simp only at e0 e1 e2 e3 e4 e5 e6 e7 e8 e9
              rw [e0, e1, e2, e3, e4, e5, e6, e7, e8, e9]
              clear e0 e1 e2 e3 e4 e5 e6 e7 e8 e9 v0 v1 v2 v3 v4 v5 v6 v7 v8 v9
              have hX3 := RX.down hX2 hpbw hR
              have e0 := RX.cell hR e0 hne
              have e1 := RX.cell hR e1 hne
              have k7 := hPost.cells.c7
              have f7 := hPost.frozen 7
              clear hB2 hX2
              have hB2 := hPost.set7 (keyV x.c x.k)
              have hX2 := hX3.setCell (p := ⟨pb, 7, none⟩) hpbw (Vq (keyV x.c x.k))
              have e0 := cell_set1 pb 7 (Vq (keyV x.c x.k)) hne e0
              have e1 := cell_set1 pb 7 (Vq (keyV x.c x.k)) hne e1
              clear hX3 hR hT hPost
              go_wp2_with fail
              generalize W.setCell ⟨pb, 7, none⟩ (Vq (keyV x.c x.k)) = W2 at *
              clear k7 f7
              refine wp_soft_frameW (RX pb) 20 (fun W => ChB W pb (.slice (some ⟨b, o, none⟩) n cap) n s2 (keyV x.c x.k) (keyV x.c x.k)) (fun W => ChB W pb (.slice (some ⟨b, o, none⟩) n cap) n s2 (if keyV x.c x.k < (keyV x.c x.k) then keyV x.c x.k else (keyV x.c x.k)) (keyV x.c x.k)) 21 (ch9Tab pb eb x (keyV x.c x.k) (keyV x.c x.k)) (by kernel_rfl) (by kernel_rfl) (fun _ _ _ => RX.trans) (fun _ _ => RX.ext) (fun _ _ h hh => hh.ext h) (fun _ _ h hh => hh.ext h) (by omega) hB2 rfl (by show List.Nodup [42, 43, 44, 45, 46, 47, 48, 49, 50, 51, 52, 53, 54, 55, 56, 57, 58, 59, 60, 61, 63]; decide) (by show ∀ d ∈ [42, 43, 44, 45, 46, 47, 48, 49, 50, 51, 52, 53, 54, 55, 56, 57, 58, 59, 60, 61, 63], d < 66; decide) (ch9Tab_mono pb eb x (keyV x.c x.k) (keyV x.c x.k) _) ?_ ⟨?_, ?_, ?_, ?_, ?_, ?_, ?_, ?_, ?_, ?_, ?_, ?_, ?_, ?_, ?_, ?_, ?_, ?_, ?_, ?_, ?_, trivial⟩
              · intro W vs hT hR hPost
                match vs, hT with
                | [v0, v1, v2, v3, v4, v5, v6, v7, v8, v9, v10, v11, v12, v13, v14, v15, v16, v17, v18, v19, v20], ⟨e0, e1, e2, e3, e4, e5, e6, e7, e8, e9, e10, e11, e12, e13, e14, e15, e16, e17, e18, e19, _, _⟩ =>
                  simp only [ch9Tab, List.map_cons, List.map_nil, List.zip_cons_cons, List.zip_nil_left, putAll, List.setIfInBounds_toArray, List.set_cons_zero, List.set_cons_succ, List.drop_succ_cons, List.drop_zero]
                  simp only at e0 e1 e2 e3 e4 e5 e6 e7 e8 e9 e10 e11 e12 e13 e14 e15 e16 e17 e18 e19
                  rw [e0, e1, e2, e3, e4, e5, e6, e7, e8, e9, e10, e11, e12, e13, e14, e15, e16, e17, e18, e19]
                  clear e0 e1 e2 e3 e4 e5 e6 e7 e8 e9 e10 e11 e12 e13 e14 e15 e16 e17 e18 e19 v0 v1 v2 v3 v4 v5 v6 v7 v8 v9 v10 v11 v12 v13 v14 v15 v16 v17 v18 v19
                  have hX3 := RX.down hX2 hpbw hR
                  have k7 := hPost.cells.c7
                  have f7 := hPost.frozen 7
                  have hB4 := hPost.set7 (if (keyV x.c x.k) < keyV x.c x.k then keyV x.c x.k else (keyV x.c x.k))
                  have hX4 := hX3.setCell (p := ⟨pb, 7, none⟩) hpbw (Vq (if (keyV x.c x.k) < keyV x.c x.k then keyV x.c x.k else (keyV x.c x.k)))
                  have hB5 := Lib.hid (show ChB _ pb _ n ((shownE (l.take (0 + 1))).length : Int) (loL (l.take (0 + 1))) (hiL (l.take (0 + 1))) by rw [hs2.out, hl2.out, hh2.out]; exact hB4)
                  replace hX4 := Lib.hid hX4
                  clear hB4 hX3 hX2 hB2 e0 e1 hs2 hl2 hh2 hPost hR hT
                  generalize (if (keyV x.c x.k) < keyV x.c x.k then keyV x.c x.k else (keyV x.c x.k)) = hi3 at *
                  go_wp2
                  go_roundw
                  case rel => exact ⟨0 + 1, by omega, by go_num, hX4.out, hB5.out⟩
                  case measure => simp [intOf]; try omega
              · refine softW_val 42 _ (by kernel_rfl) rfl rfl ?_
                intro a W hx hpre hout hdep
                have ev3 : a.tmps[3]?.getD undef = .pointer (some ⟨pb, 0, none⟩) := by rw [← Array.getD_eq_getD_getElem?]; exact hout 3 (by show 3 ∉ [42, 43, 44, 45, 46, 47, 48, 49, 50, 51, 52, 53, 54, 55, 56, 57, 58, 59, 60, 61, 63]; decide)
                refine ⟨rfl, .pointer (some ⟨pb, 0, none⟩), W, ?_, rfl, Ext.refl _⟩
                simp [ev3, execOp, go_sem]
              · refine softW_val 43 _ (by kernel_rfl) rfl rfl ?_
                intro a W hx hpre hout hdep
                have ev3 : a.tmps[3]?.getD undef = .pointer (some ⟨pb, 0, none⟩) := by rw [← Array.getD_eq_getD_getElem?]; exact hout 3 (by show 3 ∉ [42, 43, 44, 45, 46, 47, 48, 49, 50, 51, 52, 53, 54, 55, 56, 57, 58, 59, 60, 61, 63]; decide)
                refine ⟨rfl, .pointer (some ⟨pb, 0, none⟩), W, ?_, rfl, Ext.refl _⟩
                simp [ev3, execOp, go_sem]
              · refine softW_val 44 _ (by kernel_rfl) rfl rfl ?_
                intro a W hx hpre hout hdep
                have ev3 : a.tmps[3]?.getD undef = .pointer (some ⟨pb, 0, none⟩) := by rw [← Array.getD_eq_getD_getElem?]; exact hout 3 (by show 3 ∉ [42, 43, 44, 45, 46, 47, 48, 49, 50, 51, 52, 53, 54, 55, 56, 57, 58, 59, 60, 61, 63]; decide)
                refine ⟨rfl, .pointer (some ⟨pb, 0, none⟩), W, ?_, rfl, Ext.refl _⟩
                simp [ev3, execOp, go_sem]
              · refine softW_val 45 _ (by kernel_rfl) rfl rfl ?_
                intro a W hx hpre hout hdep
                have ev44 : a.tmps[44]?.getD undef = .pointer (some ⟨pb, 0, none⟩) := by rw [← Array.getD_eq_getD_getElem?]; exact (hdep ⟨2, .data⟩ (by simp) rfl 44 _ rfl).1
                refine ⟨rfl, .pointer (some ⟨pb, 0, none⟩), W, ?_, rfl, Ext.refl _⟩
                simp [ev44, execOp, go_sem]
              · refine softW_val 46 _ (by kernel_rfl) rfl rfl ?_
                intro a W hx hpre hout hdep
                have ev45 : a.tmps[45]?.getD undef = .pointer (some ⟨pb, 0, none⟩) := by rw [← Array.getD_eq_getD_getElem?]; exact (hdep ⟨3, .data⟩ (by simp) rfl 45 _ rfl).1
                refine ⟨rfl, .pointer (some ⟨pb, 6, none⟩), W, ?_, rfl, Ext.refl _⟩
                simp [ev45, execOp, go_sem]
              · refine softW_val 47 _ (by kernel_rfl) rfl rfl ?_
                intro a W hx hpre hout hdep
                have ev46 : a.tmps[46]?.getD undef = .pointer (some ⟨pb, 6, none⟩) := by rw [← Array.getD_eq_getD_getElem?]; exact (hdep ⟨4, .data⟩ (by simp) rfl 46 _ rfl).1
                have q0 := (hpre (by kernel_rfl)).cells.c6
                refine ⟨rfl, Vq (keyV x.c x.k), W, ?_, rfl, Ext.refl _⟩
                simp [ev46, q0, execOp, go_sem]
              · refine softW_val 48 _ (by kernel_rfl) rfl rfl ?_
                intro a W hx hpre hout hdep
                have ev5 : a.tmps[5]?.getD undef = .pointer (some ⟨eb, 0, none⟩) := by rw [← Array.getD_eq_getD_getElem?]; exact hout 5 (by show 5 ∉ [42, 43, 44, 45, 46, 47, 48, 49, 50, 51, 52, 53, 54, 55, 56, 57, 58, 59, 60, 61, 63]; decide)
                refine ⟨rfl, .pointer (some ⟨eb, 0, none⟩), W, ?_, rfl, Ext.refl _⟩
                simp [ev5, execOp, go_sem]
              · refine softW_val 49 _ (by kernel_rfl) rfl rfl ?_
                intro a W hx hpre hout hdep
                have ev48 : a.tmps[48]?.getD undef = .pointer (some ⟨eb, 0, none⟩) := by rw [← Array.getD_eq_getD_getElem?]; exact (hdep ⟨6, .data⟩ (by simp) rfl 48 _ rfl).1
                have q0 := RX.cell hx e0 hne
                have q1 := RX.cell hx e1 hne
                refine ⟨rfl, idv x.c x.k, W, ?_, rfl, Ext.refl _⟩
                simp [ev48, q0, q1, execOp, go_sem]
              · refine softW_call 50 _ (by kernel_rfl) rfl rfl ?_
                intro a W hx hpre hout hdep
                have ev49 : a.tmps[49]?.getD undef = idv x.c x.k := by rw [← Array.getD_eq_getD_getElem?]; exact (hdep ⟨7, .data⟩ (by simp) rfl 49 _ rfl).1
                refine ⟨rfl, 95, #[idv x.c x.k], ?_, ?_⟩
                · simp [ev49, execOp, go_sem]
                · exact (key_any x.c x.k W).mono (by rintro e W1 ⟨rfl, h2⟩; exact ⟨_, rfl, rfl, h2⟩)
              · refine softW_val 51 _ (by kernel_rfl) rfl rfl ?_
                intro a W hx hpre hout hdep
                have ev47 : a.tmps[47]?.getD undef = Vq (keyV x.c x.k) := by rw [← Array.getD_eq_getD_getElem?]; exact (hdep ⟨5, .data⟩ (by simp) rfl 47 _ rfl).1
                have ev50 : a.tmps[50]?.getD undef = Vq (keyV x.c x.k) := by rw [← Array.getD_eq_getD_getElem?]; exact (hdep ⟨8, .data⟩ (by simp) rfl 50 _ rfl).1
                refine ⟨rfl, Vq (if keyV x.c x.k < (keyV x.c x.k) then keyV x.c x.k else (keyV x.c x.k)), W, ?_, rfl, Ext.refl _⟩
                simp [ev47, ev50, execOp, go_sem]
              · refine softW_val 52 _ (by kernel_rfl) rfl rfl ?_
                intro a W hx hpre hout hdep
                have ev3 : a.tmps[3]?.getD undef = .pointer (some ⟨pb, 0, none⟩) := by rw [← Array.getD_eq_getD_getElem?]; exact hout 3 (by show 3 ∉ [42, 43, 44, 45, 46, 47, 48, 49, 50, 51, 52, 53, 54, 55, 56, 57, 58, 59, 60, 61, 63]; decide)
                refine ⟨rfl, .pointer (some ⟨pb, 0, none⟩), W, ?_, rfl, Ext.refl _⟩
                simp [ev3, execOp, go_sem]
              · refine softW_val 53 _ (by kernel_rfl) rfl rfl ?_
                intro a W hx hpre hout hdep
                have ev52 : a.tmps[52]?.getD undef = .pointer (some ⟨pb, 0, none⟩) := by rw [← Array.getD_eq_getD_getElem?]; exact (hdep ⟨10, .data⟩ (by simp) rfl 52 _ rfl).1
                refine ⟨rfl, .pointer (some ⟨pb, 0, none⟩), W, ?_, rfl, Ext.refl _⟩
                simp [ev52, execOp, go_sem]
              · refine softW_val 54 _ (by kernel_rfl) rfl rfl ?_
                intro a W hx hpre hout hdep
                have ev53 : a.tmps[53]?.getD undef = .pointer (some ⟨pb, 0, none⟩) := by rw [← Array.getD_eq_getD_getElem?]; exact (hdep ⟨11, .data⟩ (by simp) rfl 53 _ rfl).1
                refine ⟨rfl, .pointer (some ⟨pb, 7, none⟩), W, ?_, rfl, Ext.refl _⟩
                simp [ev53, execOp, go_sem]
              · refine softW_val 55 _ (by kernel_rfl) rfl rfl ?_
                intro a W hx hpre hout hdep
                have ev54 : a.tmps[54]?.getD undef = .pointer (some ⟨pb, 7, none⟩) := by rw [← Array.getD_eq_getD_getElem?]; exact (hdep ⟨12, .data⟩ (by simp) rfl 54 _ rfl).1
                have q0 := (hpre (by kernel_rfl)).cells.c7
                refine ⟨rfl, Vq (keyV x.c x.k), W, ?_, rfl, Ext.refl _⟩
                simp [ev54, q0, execOp, go_sem]
              · refine softW_val 56 _ (by kernel_rfl) rfl rfl ?_
                intro a W hx hpre hout hdep
                have ev5 : a.tmps[5]?.getD undef = .pointer (some ⟨eb, 0, none⟩) := by rw [← Array.getD_eq_getD_getElem?]; exact hout 5 (by show 5 ∉ [42, 43, 44, 45, 46, 47, 48, 49, 50, 51, 52, 53, 54, 55, 56, 57, 58, 59, 60, 61, 63]; decide)
                refine ⟨rfl, .pointer (some ⟨eb, 0, none⟩), W, ?_, rfl, Ext.refl _⟩
                simp [ev5, execOp, go_sem]
              · refine softW_val 57 _ (by kernel_rfl) rfl rfl ?_
                intro a W hx hpre hout hdep
                have ev56 : a.tmps[56]?.getD undef = .pointer (some ⟨eb, 0, none⟩) := by rw [← Array.getD_eq_getD_getElem?]; exact (hdep ⟨14, .data⟩ (by simp) rfl 56 _ rfl).1
                have q0 := RX.cell hx e0 hne
                have q1 := RX.cell hx e1 hne
                refine ⟨rfl, idv x.c x.k, W, ?_, rfl, Ext.refl _⟩
                simp [ev56, q0, q1, execOp, go_sem]
              · refine softW_call 58 _ (by kernel_rfl) rfl rfl ?_
                intro a W hx hpre hout hdep
                have ev57 : a.tmps[57]?.getD undef = idv x.c x.k := by rw [← Array.getD_eq_getD_getElem?]; exact (hdep ⟨15, .data⟩ (by simp) rfl 57 _ rfl).1
                refine ⟨rfl, 95, #[idv x.c x.k], ?_, ?_⟩
                · simp [ev57, execOp, go_sem]
                · exact (key_any x.c x.k W).mono (by rintro e W1 ⟨rfl, h2⟩; exact ⟨_, rfl, rfl, h2⟩)
              · refine softW_val 59 _ (by kernel_rfl) rfl rfl ?_
                intro a W hx hpre hout hdep
                have ev55 : a.tmps[55]?.getD undef = Vq (keyV x.c x.k) := by rw [← Array.getD_eq_getD_getElem?]; exact (hdep ⟨13, .data⟩ (by simp) rfl 55 _ rfl).1
                have ev58 : a.tmps[58]?.getD undef = Vq (keyV x.c x.k) := by rw [← Array.getD_eq_getD_getElem?]; exact (hdep ⟨16, .data⟩ (by simp) rfl 58 _ rfl).1
                refine ⟨rfl, Vq (if (keyV x.c x.k) < keyV x.c x.k then keyV x.c x.k else (keyV x.c x.k)), W, ?_, rfl, Ext.refl _⟩
                simp [ev55, ev58, execOp, go_sem]
              · refine softW_val 60 _ (by kernel_rfl) rfl rfl ?_
                intro a W hx hpre hout hdep
                have ev42 : a.tmps[42]?.getD undef = .pointer (some ⟨pb, 0, none⟩) := by rw [← Array.getD_eq_getD_getElem?]; exact (hdep ⟨0, .data⟩ (by simp) rfl 42 _ rfl).1
                refine ⟨rfl, .pointer (some ⟨pb, 0, none⟩), W, ?_, rfl, Ext.refl _⟩
                simp [ev42, execOp, go_sem]
              · refine softW_val 61 _ (by kernel_rfl) rfl rfl ?_
                intro a W hx hpre hout hdep
                have ev60 : a.tmps[60]?.getD undef = .pointer (some ⟨pb, 0, none⟩) := by rw [← Array.getD_eq_getD_getElem?]; exact (hdep ⟨18, .data⟩ (by simp) rfl 60 _ rfl).1
                refine ⟨rfl, .pointer (some ⟨pb, 6, none⟩), W, ?_, rfl, Ext.refl _⟩
                simp [ev60, execOp, go_sem]
              · refine softC_none 63 (by kernel_rfl) rfl rfl ?_
                intro a W hx hpre hout hdep
                have ev61 : a.tmps[61]?.getD undef = .pointer (some ⟨pb, 6, none⟩) := by rw [← Array.getD_eq_getD_getElem?]; exact (hdep ⟨19, .data⟩ (by simp) rfl 61 _ rfl).1
                have ev51 : a.tmps[51]?.getD undef = Vq (if keyV x.c x.k < (keyV x.c x.k) then keyV x.c x.k else (keyV x.c x.k)) := by rw [← Array.getD_eq_getD_getElem?]; exact (hdep ⟨9, .data⟩ (by simp) rfl 51 _ rfl).1
                have k6 := hpre.cells.c6
                have f6 := hpre.frozen 6
                refine ⟨rfl, W.setCell ⟨pb, 6, none⟩ (Vq (if keyV x.c x.k < (keyV x.c x.k) then keyV x.c x.k else (keyV x.c x.k))), ?_, RX.set (RX.refl pb W) 6 _ (.inr rfl), hpre.set6 _⟩
                simp [k6, f6, ev61, ev51, execOp, go_sem]
          · refine softW_val 30 _ (by kernel_rfl) rfl rfl ?_
            intro a W hx hpre hout hdep
            have ev3 : a.tmps[3]?.getD undef = .pointer (some ⟨pb, 0, none⟩) := by rw [← Array.getD_eq_getD_getElem?]; exact hout 3 (by show 3 ∉ [30, 31, 32, 33, 34, 35, 36, 37, 38, 39, 41]; decide)
            refine ⟨rfl, .pointer (some ⟨pb, 0, none⟩), W, ?_, rfl, Ext.refl _⟩
            simp [ev3, execOp, go_sem]
          · refine softW_val 31 _ (by kernel_rfl) rfl rfl ?_
            intro a W hx hpre hout hdep
            have ev3 : a.tmps[3]?.getD undef = .pointer (some ⟨pb, 0, none⟩) := by rw [← Array.getD_eq_getD_getElem?]; exact hout 3 (by show 3 ∉ [30, 31, 32, 33, 34, 35, 36, 37, 38, 39, 41]; decide)
            refine ⟨rfl, .pointer (some ⟨pb, 0, none⟩), W, ?_, rfl, Ext.refl _⟩
            simp [ev3, execOp, go_sem]
          · refine softW_val 32 _ (by kernel_rfl) rfl rfl ?_
            intro a W hx hpre hout hdep
            have ev5 : a.tmps[5]?.getD undef = .pointer (some ⟨eb, 0, none⟩) := by rw [← Array.getD_eq_getD_getElem?]; exact hout 5 (by show 5 ∉ [30, 31, 32, 33, 34, 35, 36, 37, 38, 39, 41]; decide)
            refine ⟨rfl, .pointer (some ⟨eb, 0, none⟩), W, ?_, rfl, Ext.refl _⟩
            simp [ev5, execOp, go_sem]
          · refine softW_val 33 _ (by kernel_rfl) rfl rfl ?_
            intro a W hx hpre hout hdep
            have ev32 : a.tmps[32]?.getD undef = .pointer (some ⟨eb, 0, none⟩) := by rw [← Array.getD_eq_getD_getElem?]; exact (hdep ⟨2, .data⟩ (by simp) rfl 32 _ rfl).1
            have q0 := RX.cell hx e0 hne
            have q1 := RX.cell hx e1 hne
            refine ⟨rfl, idv x.c x.k, W, ?_, rfl, Ext.refl _⟩
            simp [ev32, q0, q1, execOp, go_sem]
          · refine softW_call 34 _ (by kernel_rfl) rfl rfl ?_
            intro a W hx hpre hout hdep
            have ev33 : a.tmps[33]?.getD undef = idv x.c x.k := by rw [← Array.getD_eq_getD_getElem?]; exact (hdep ⟨3, .data⟩ (by simp) rfl 33 _ rfl).1
            refine ⟨rfl, 95, #[idv x.c x.k], ?_, ?_⟩
            · simp [ev33, execOp, go_sem]
            · exact (key_any x.c x.k W).mono (by rintro e W1 ⟨rfl, h2⟩; exact ⟨_, rfl, rfl, h2⟩)
          · refine softW_val 35 _ (by kernel_rfl) rfl rfl ?_
            intro a W hx hpre hout hdep
            have ev5 : a.tmps[5]?.getD undef = .pointer (some ⟨eb, 0, none⟩) := by rw [← Array.getD_eq_getD_getElem?]; exact hout 5 (by show 5 ∉ [30, 31, 32, 33, 34, 35, 36, 37, 38, 39, 41]; decide)
            refine ⟨rfl, .pointer (some ⟨eb, 0, none⟩), W, ?_, rfl, Ext.refl _⟩
            simp [ev5, execOp, go_sem]
          · refine softW_val 36 _ (by kernel_rfl) rfl rfl ?_
            intro a W hx hpre hout hdep
            have ev35 : a.tmps[35]?.getD undef = .pointer (some ⟨eb, 0, none⟩) := by rw [← Array.getD_eq_getD_getElem?]; exact (hdep ⟨5, .data⟩ (by simp) rfl 35 _ rfl).1
            have q0 := RX.cell hx e0 hne
            have q1 := RX.cell hx e1 hne
            refine ⟨rfl, idv x.c x.k, W, ?_, rfl, Ext.refl _⟩
            simp [ev35, q0, q1, execOp, go_sem]
          · refine softW_call 37 _ (by kernel_rfl) rfl rfl ?_
            intro a W hx hpre hout hdep
            have ev36 : a.tmps[36]?.getD undef = idv x.c x.k := by rw [← Array.getD_eq_getD_getElem?]; exact (hdep ⟨6, .data⟩ (by simp) rfl 36 _ rfl).1
            refine ⟨rfl, 95, #[idv x.c x.k], ?_, ?_⟩
            · simp [ev36, execOp, go_sem]
            · exact (key_any x.c x.k W).mono (by rintro e W1 ⟨rfl, h2⟩; exact ⟨_, rfl, rfl, h2⟩)
          · refine softW_val 38 _ (by kernel_rfl) rfl rfl ?_
            intro a W hx hpre hout hdep
            have ev30 : a.tmps[30]?.getD undef = .pointer (some ⟨pb, 0, none⟩) := by rw [← Array.getD_eq_getD_getElem?]; exact (hdep ⟨0, .data⟩ (by simp) rfl 30 _ rfl).1
            refine ⟨rfl, .pointer (some ⟨pb, 0, none⟩), W, ?_, rfl, Ext.refl _⟩
            simp [ev30, execOp, go_sem]
          · refine softW_val 39 _ (by kernel_rfl) rfl rfl ?_
            intro a W hx hpre hout hdep
            have ev38 : a.tmps[38]?.getD undef = .pointer (some ⟨pb, 0, none⟩) := by rw [← Array.getD_eq_getD_getElem?]; exact (hdep ⟨8, .data⟩ (by simp) rfl 38 _ rfl).1
            refine ⟨rfl, .pointer (some ⟨pb, 6, none⟩), W, ?_, rfl, Ext.refl _⟩
            simp [ev38, execOp, go_sem]
          · refine softC_none 41 (by kernel_rfl) rfl rfl ?_
            intro a W hx hpre hout hdep
            have ev39 : a.tmps[39]?.getD undef = .pointer (some ⟨pb, 6, none⟩) := by rw [← Array.getD_eq_getD_getElem?]; exact (hdep ⟨9, .data⟩ (by simp) rfl 39 _ rfl).1
            have ev34 : a.tmps[34]?.getD undef = Vq (keyV x.c x.k) := by rw [← Array.getD_eq_getD_getElem?]; exact (hdep ⟨4, .data⟩ (by simp) rfl 34 _ rfl).1
            have k6 := hpre.cells.c6
            have f6 := hpre.frozen 6
            refine ⟨rfl, W.setCell ⟨pb, 6, none⟩ (Vq (keyV x.c x.k)), ?_, RX.set (RX.refl pb W) 6 _ (.inr rfl), hpre.set6 _⟩
            simp [k6, f6, ev39, ev34, execOp, go_sem]
        | false =>
          rw [hg] at c3 hsh
          replace hW1 := hW1.out
          rw [hg] at hW1
          have p5 := hB1.cells.c5
          have f5 := hB1.frozen 5
          rw [← hW1] at p5 f5
          have hs2 := Lib.hid (show (((shownE (l.take (0 + 1))).length : Nat) : Int) = ((shownE (l.take 0)).length : Int) + 1 by rw [hsh]; simp)
          have hsb : (shownE (l.take 0)).length ≤ 100000 := by simp [shownE, shownG]
          have hB2 := hB1.set5 (((shownE (l.take 0)).length : Int) + 1)
          have hX2 := hX1.setCell (p := ⟨pb, 5, none⟩) hpbw (Vi (((shownE (l.take 0)).length : Int) + 1))
          have e0 := cell_set1 pb 5 (Vi (((shownE (l.take 0)).length : Int) + 1)) hne e0
          have e1 := cell_set1 pb 5 (Vi (((shownE (l.take 0)).length : Int) + 1)) hne e1
          replace hW1 := Lib.hid hW1
          generalize (shownE (l.take 0)).length = s0 at *
          have hwz : IntKind.i64.wrap ((s0 : Int) + 1) = (s0 : Int) + 1 := IntWalk.i64_in _ (by omega)
          go_wp2_with fail
          rw [hW1.out, heb.out]
          generalize W1.setCell ⟨pb, 5, none⟩ (Vi ((s0 : Int) + 1)) = W2 at *
          clear hB1 hX1 hW1 heb hB hx c0 c1 c2 c3 hsh hp hj1 hj2 p5 f5
          obtain ⟨s2, hsd⟩ : ∃ z : Int, (s0 : Int) + 1 = z := ⟨_, rfl⟩
          rw [hsd] at hB2
          replace hs2 := Lib.hid (hs2.out.trans hsd)
          clear hsd
          refine wp_soft_frameW (RX pb) 10 (fun W => ChB W pb (.slice (some ⟨b, o, none⟩) n cap) n s2 lo2 hi2) (fun W => ChB W pb (.slice (some ⟨b, o, none⟩) n cap) n s2 (keyV x.c x.k) hi2) 11 (ch8Tab pb eb x lo2 hi2) (by kernel_rfl) (by kernel_rfl) (fun _ _ _ => RX.trans) (fun _ _ => RX.ext) (fun _ _ h hh => hh.ext h) (fun _ _ h hh => hh.ext h) (by omega) hB2 rfl (by show List.Nodup [30, 31, 32, 33, 34, 35, 36, 37, 38, 39, 41]; decide) (by show ∀ d ∈ [30, 31, 32, 33, 34, 35, 36, 37, 38, 39, 41], d < 66; decide) (ch8Tab_mono pb eb x lo2 hi2 _) ?_ ⟨?_, ?_, ?_, ?_, ?_, ?_, ?_, ?_, ?_, ?_, ?_, trivial⟩
          · intro W vs hT hR hPost
            match vs, hT with
            | [v0, v1, v2, v3, v4, v5, v6, v7, v8, v9, v10], ⟨e0, e1, e2, e3, e4, e5, e6, e7, e8, e9, _, _⟩ =>
              simp only [ch8Tab, List.map_cons, List.map_nil, List.zip_cons_cons, List.zip_nil_left, putAll, List.setIfInBounds_toArray, List.set_cons_zero, List.set_cons_succ, List.drop_succ_cons, List.drop_zero]
              simp only at e0 e1 e2 e3 e4 e5 e6 e7 e8 e9
              rw [e0, e1, e2, e3, e4, e5, e6, e7, e8, e9]
              clear e0 e1 e2 e3 e4 e5 e6 e7 e8 e9 v0 v1 v2 v3 v4 v5 v6 v7 v8 v9
              have hX3 := RX.down hX2 hpbw hR
              have e0 := RX.cell hR e0 hne
              have e1 := RX.cell hR e1 hne
              have k7 := hPost.cells.c7
              have f7 := hPost.frozen 7
              clear hB2 hX2
              have hB2 := hPost.set7 (keyV x.c x.k)
              have hX2 := hX3.setCell (p := ⟨pb, 7, none⟩) hpbw (Vq (keyV x.c x.k))
              have e0 := cell_set1 pb 7 (Vq (keyV x.c x.k)) hne e0
              have e1 := cell_set1 pb 7 (Vq (keyV x.c x.k)) hne e1
              clear hX3 hR hT hPost
              go_wp2_with fail
              generalize W.setCell ⟨pb, 7, none⟩ (Vq (keyV x.c x.k)) = W2 at *
              clear k7 f7
              refine wp_soft_frameW (RX pb) 20 (fun W => ChB W pb (.slice (some ⟨b, o, none⟩) n cap) n s2 (keyV x.c x.k) (keyV x.c x.k)) (fun W => ChB W pb (.slice (some ⟨b, o, none⟩) n cap) n s2 (if keyV x.c x.k < (keyV x.c x.k) then keyV x.c x.k else (keyV x.c x.k)) (keyV x.c x.k)) 21 (ch9Tab pb eb x (keyV x.c x.k) (keyV x.c x.k)) (by kernel_rfl) (by kernel_rfl) (fun _ _ _ => RX.trans) (fun _ _ => RX.ext) (fun _ _ h hh => hh.ext h) (fun _ _ h hh => hh.ext h) (by omega) hB2 rfl (by show List.Nodup [42, 43, 44, 45, 46, 47, 48, 49, 50, 51, 52, 53, 54, 55, 56, 57, 58, 59, 60, 61, 63]; decide) (by show ∀ d ∈ [42, 43, 44, 45, 46, 47, 48, 49, 50, 51, 52, 53, 54, 55, 56, 57, 58, 59, 60, 61, 63], d < 66; decide) (ch9Tab_mono pb eb x (keyV x.c x.k) (keyV x.c x.k) _) ?_ ⟨?_, ?_, ?_, ?_, ?_, ?_, ?_, ?_, ?_, ?_, ?_, ?_, ?_, ?_, ?_, ?_, ?_, ?_, ?_, ?_, ?_, trivial⟩
              · intro W vs hT hR hPost
                match vs, hT with
                | [v0, v1, v2, v3, v4, v5, v6, v7, v8, v9, v10, v11, v12, v13, v14, v15, v16, v17, v18, v19, v20], ⟨e0, e1, e2, e3, e4, e5, e6, e7, e8, e9, e10, e11, e12, e13, e14, e15, e16, e17, e18, e19, _, _⟩ =>
                  simp only [ch9Tab, List.map_cons, List.map_nil, List.zip_cons_cons, List.zip_nil_left, putAll, List.setIfInBounds_toArray, List.set_cons_zero, List.set_cons_succ, List.drop_succ_cons, List.drop_zero]
                  simp only at e0 e1 e2 e3 e4 e5 e6 e7 e8 e9 e10 e11 e12 e13 e14 e15 e16 e17 e18 e19
                  rw [e0, e1, e2, e3, e4, e5, e6, e7, e8, e9, e10, e11, e12, e13, e14, e15, e16, e17, e18, e19]
                  clear e0 e1 e2 e3 e4 e5 e6 e7 e8 e9 e10 e11 e12 e13 e14 e15 e16 e17 e18 e19 v0 v1 v2 v3 v4 v5 v6 v7 v8 v9 v10 v11 v12 v13 v14 v15 v16 v17 v18 v19
                  have hX3 := RX.down hX2 hpbw hR
                  have k7 := hPost.cells.c7
                  have f7 := hPost.frozen 7
                  have hB4 := hPost.set7 (if (keyV x.c x.k) < keyV x.c x.k then keyV x.c x.k else (keyV x.c x.k))
                  have hX4 := hX3.setCell (p := ⟨pb, 7, none⟩) hpbw (Vq (if (keyV x.c x.k) < keyV x.c x.k then keyV x.c x.k else (keyV x.c x.k)))
                  have hB5 := Lib.hid (show ChB _ pb _ n ((shownE (l.take (0 + 1))).length : Int) (loL (l.take (0 + 1))) (hiL (l.take (0 + 1))) by rw [hs2.out, hl2.out, hh2.out]; exact hB4)
                  replace hX4 := Lib.hid hX4
                  clear hB4 hX3 hX2 hB2 e0 e1 hs2 hl2 hh2 hPost hR hT
                  generalize (if (keyV x.c x.k) < keyV x.c x.k then keyV x.c x.k else (keyV x.c x.k)) = hi3 at *
                  go_wp2
                  go_roundw
                  case rel => exact ⟨0 + 1, by omega, by go_num, hX4.out, hB5.out⟩
                  case measure => simp [intOf]; try omega
              · refine softW_val 42 _ (by kernel_rfl) rfl rfl ?_
                intro a W hx hpre hout hdep
                have ev3 : a.tmps[3]?.getD undef = .pointer (some ⟨pb, 0, none⟩) := by rw [← Array.getD_eq_getD_getElem?]; exact hout 3 (by show 3 ∉ [42, 43, 44, 45, 46, 47, 48, 49, 50, 51, 52, 53, 54, 55, 56, 57, 58, 59, 60, 61, 63]; decide)
                refine ⟨rfl, .pointer (some ⟨pb, 0, none⟩), W, ?_, rfl, Ext.refl _⟩
                simp [ev3, execOp, go_sem]
              · refine softW_val 43 _ (by kernel_rfl) rfl rfl ?_
                intro a W hx hpre hout hdep
                have ev3 : a.tmps[3]?.getD undef = .pointer (some ⟨pb, 0, none⟩) := by rw [← Array.getD_eq_getD_getElem?]; exact hout 3 (by show 3 ∉ [42, 43, 44, 45, 46, 47, 48, 49, 50, 51, 52, 53, 54, 55, 56, 57, 58, 59, 60, 61, 63]; decide)
                refine ⟨rfl, .pointer (some ⟨pb, 0, none⟩), W, ?_, rfl, Ext.refl _⟩
                simp [ev3, execOp, go_sem]
              · refine softW_val 44 _ (by kernel_rfl) rfl rfl ?_
                intro a W hx hpre hout hdep
                have ev3 : a.tmps[3]?.getD undef = .pointer (some ⟨pb, 0, none⟩) := by rw [← Array.getD_eq_getD_getElem?]; exact hout 3 (by show 3 ∉ [42, 43, 44, 45, 46, 47, 48, 49, 50, 51, 52, 53, 54, 55, 56, 57, 58, 59, 60, 61, 63]; decide)
                refine ⟨rfl, .pointer (some ⟨pb, 0, none⟩), W, ?_, rfl, Ext.refl _⟩
                simp [ev3, execOp, go_sem]
              · refine softW_val 45 _ (by kernel_rfl) rfl rfl ?_
                intro a W hx hpre hout hdep
                have ev44 : a.tmps[44]?.getD undef = .pointer (some ⟨pb, 0, none⟩) := by rw [← Array.getD_eq_getD_getElem?]; exact (hdep ⟨2, .data⟩ (by simp) rfl 44 _ rfl).1
                refine ⟨rfl, .pointer (some ⟨pb, 0, none⟩), W, ?_, rfl, Ext.refl _⟩
                simp [ev44, execOp, go_sem]
              · refine softW_val 46 _ (by kernel_rfl) rfl rfl ?_
                intro a W hx hpre hout hdep
                have ev45 : a.tmps[45]?.getD undef = .pointer (some ⟨pb, 0, none⟩) := by rw [← Array.getD_eq_getD_getElem?]; exact (hdep ⟨3, .data⟩ (by simp) rfl 45 _ rfl).1
                refine ⟨rfl, .pointer (some ⟨pb, 6, none⟩), W, ?_, rfl, Ext.refl _⟩
                simp [ev45, execOp, go_sem]
              · refine softW_val 47 _ (by kernel_rfl) rfl rfl ?_
                intro a W hx hpre hout hdep
                have ev46 : a.tmps[46]?.getD undef = .pointer (some ⟨pb, 6, none⟩) := by rw [← Array.getD_eq_getD_getElem?]; exact (hdep ⟨4, .data⟩ (by simp) rfl 46 _ rfl).1
                have q0 := (hpre (by kernel_rfl)).cells.c6
                refine ⟨rfl, Vq (keyV x.c x.k), W, ?_, rfl, Ext.refl _⟩
                simp [ev46, q0, execOp, go_sem]
              · refine softW_val 48 _ (by kernel_rfl) rfl rfl ?_
                intro a W hx hpre hout hdep
                have ev5 : a.tmps[5]?.getD undef = .pointer (some ⟨eb, 0, none⟩) := by rw [← Array.getD_eq_getD_getElem?]; exact hout 5 (by show 5 ∉ [42, 43, 44, 45, 46, 47, 48, 49, 50, 51, 52, 53, 54, 55, 56, 57, 58, 59, 60, 61, 63]; decide)
                refine ⟨rfl, .pointer (some ⟨eb, 0, none⟩), W, ?_, rfl, Ext.refl _⟩
                simp [ev5, execOp, go_sem]
              · refine softW_val 49 _ (by kernel_rfl) rfl rfl ?_
                intro a W hx hpre hout hdep
                have ev48 : a.tmps[48]?.getD undef = .pointer (some ⟨eb, 0, none⟩) := by rw [← Array.getD_eq_getD_getElem?]; exact (hdep ⟨6, .data⟩ (by simp) rfl 48 _ rfl).1
                have q0 := RX.cell hx e0 hne
                have q1 := RX.cell hx e1 hne
                refine ⟨rfl, idv x.c x.k, W, ?_, rfl, Ext.refl _⟩
                simp [ev48, q0, q1, execOp, go_sem]
              · refine softW_call 50 _ (by kernel_rfl) rfl rfl ?_
                intro a W hx hpre hout hdep
                have ev49 : a.tmps[49]?.getD undef = idv x.c x.k := by rw [← Array.getD_eq_getD_getElem?]; exact (hdep ⟨7, .data⟩ (by simp) rfl 49 _ rfl).1
                refine ⟨rfl, 95, #[idv x.c x.k], ?_, ?_⟩
                · simp [ev49, execOp, go_sem]
                · exact (key_any x.c x.k W).mono (by rintro e W1 ⟨rfl, h2⟩; exact ⟨_, rfl, rfl, h2⟩)
              · refine softW_val 51 _ (by kernel_rfl) rfl rfl ?_
                intro a W hx hpre hout hdep
                have ev47 : a.tmps[47]?.getD undef = Vq (keyV x.c x.k) := by rw [← Array.getD_eq_getD_getElem?]; exact (hdep ⟨5, .data⟩ (by simp) rfl 47 _ rfl).1
                have ev50 : a.tmps[50]?.getD undef = Vq (keyV x.c x.k) := by rw [← Array.getD_eq_getD_getElem?]; exact (hdep ⟨8, .data⟩ (by simp) rfl 50 _ rfl).1
                refine ⟨rfl, Vq (if keyV x.c x.k < (keyV x.c x.k) then keyV x.c x.k else (keyV x.c x.k)), W, ?_, rfl, Ext.refl _⟩
                simp [ev47, ev50, execOp, go_sem]
              · refine softW_val 52 _ (by kernel_rfl) rfl rfl ?_
                intro a W hx hpre hout hdep
                have ev3 : a.tmps[3]?.getD undef = .pointer (some ⟨pb, 0, none⟩) := by rw [← Array.getD_eq_getD_getElem?]; exact hout 3 (by show 3 ∉ [42, 43, 44, 45, 46, 47, 48, 49, 50, 51, 52, 53, 54, 55, 56, 57, 58, 59, 60, 61, 63]; decide)
                refine ⟨rfl, .pointer (some ⟨pb, 0, none⟩), W, ?_, rfl, Ext.refl _⟩
                simp [ev3, execOp, go_sem]
              · refine softW_val 53 _ (by kernel_rfl) rfl rfl ?_
                intro a W hx hpre hout hdep
                have ev52 : a.tmps[52]?.getD undef = .pointer (some ⟨pb, 0, none⟩) := by rw [← Array.getD_eq_getD_getElem?]; exact (hdep ⟨10, .data⟩ (by simp) rfl 52 _ rfl).1
                refine ⟨rfl, .pointer (some ⟨pb, 0, none⟩), W, ?_, rfl, Ext.refl _⟩
                simp [ev52, execOp, go_sem]
              · refine softW_val 54 _ (by kernel_rfl) rfl rfl ?_
                intro a W hx hpre hout hdep
                have ev53 : a.tmps[53]?.getD undef = .pointer (some ⟨pb, 0, none⟩) := by rw [← Array.getD_eq_getD_getElem?]; exact (hdep ⟨11, .data⟩ (by simp) rfl 53 _ rfl).1
                refine ⟨rfl, .pointer (some ⟨pb, 7, none⟩), W, ?_, rfl, Ext.refl _⟩
                simp [ev53, execOp, go_sem]
              · refine softW_val 55 _ (by kernel_rfl) rfl rfl ?_
                intro a W hx hpre hout hdep
                have ev54 : a.tmps[54]?.getD undef = .pointer (some ⟨pb, 7, none⟩) := by rw [← Array.getD_eq_getD_getElem?]; exact (hdep ⟨12, .data⟩ (by simp) rfl 54 _ rfl).1
                have q0 := (hpre (by kernel_rfl)).cells.c7
                refine ⟨rfl, Vq (keyV x.c x.k), W, ?_, rfl, Ext.refl _⟩
                simp [ev54, q0, execOp, go_sem]
              · refine softW_val 56 _ (by kernel_rfl) rfl rfl ?_
                intro a W hx hpre hout hdep
                have ev5 : a.tmps[5]?.getD undef = .pointer (some ⟨eb, 0, none⟩) := by rw [← Array.getD_eq_getD_getElem?]; exact hout 5 (by show 5 ∉ [42, 43, 44, 45, 46, 47, 48, 49, 50, 51, 52, 53, 54, 55, 56, 57, 58, 59, 60, 61, 63]; decide)
                refine ⟨rfl, .pointer (some ⟨eb, 0, none⟩), W, ?_, rfl, Ext.refl _⟩
                simp [ev5, execOp, go_sem]
              · refine softW_val 57 _ (by kernel_rfl) rfl rfl ?_
                intro a W hx hpre hout hdep
                have ev56 : a.tmps[56]?.getD undef = .pointer (some ⟨eb, 0, none⟩) := by rw [← Array.getD_eq_getD_getElem?]; exact (hdep ⟨14, .data⟩ (by simp) rfl 56 _ rfl).1
                have q0 := RX.cell hx e0 hne
                have q1 := RX.cell hx e1 hne
                refine ⟨rfl, idv x.c x.k, W, ?_, rfl, Ext.refl _⟩
                simp [ev56, q0, q1, execOp, go_sem]
              · refine softW_call 58 _ (by kernel_rfl) rfl rfl ?_
                intro a W hx hpre hout hdep
                have ev57 : a.tmps[57]?.getD undef = idv x.c x.k := by rw [← Array.getD_eq_getD_getElem?]; exact (hdep ⟨15, .data⟩ (by simp) rfl 57 _ rfl).1
                refine ⟨rfl, 95, #[idv x.c x.k], ?_, ?_⟩
                · simp [ev57, execOp, go_sem]
                · exact (key_any x.c x.k W).mono (by rintro e W1 ⟨rfl, h2⟩; exact ⟨_, rfl, rfl, h2⟩)
              · refine softW_val 59 _ (by kernel_rfl) rfl rfl ?_
                intro a W hx hpre hout hdep
                have ev55 : a.tmps[55]?.getD undef = Vq (keyV x.c x.k) := by rw [← Array.getD_eq_getD_getElem?]; exact (hdep ⟨13, .data⟩ (by simp) rfl 55 _ rfl).1
                have ev58 : a.tmps[58]?.getD undef = Vq (keyV x.c x.k) := by rw [← Array.getD_eq_getD_getElem?]; exact (hdep ⟨16, .data⟩ (by simp) rfl 58 _ rfl).1
                refine ⟨rfl, Vq (if (keyV x.c x.k) < keyV x.c x.k then keyV x.c x.k else (keyV x.c x.k)), W, ?_, rfl, Ext.refl _⟩
                simp [ev55, ev58, execOp, go_sem]
              · refine softW_val 60 _ (by kernel_rfl) rfl rfl ?_
                intro a W hx hpre hout hdep
                have ev42 : a.tmps[42]?.getD undef = .pointer (some ⟨pb, 0, none⟩) := by rw [← Array.getD_eq_getD_getElem?]; exact (hdep ⟨0, .data⟩ (by simp) rfl 42 _ rfl).1
                refine ⟨rfl, .pointer (some ⟨pb, 0, none⟩), W, ?_, rfl, Ext.refl _⟩
                simp [ev42, execOp, go_sem]
              · refine softW_val 61 _ (by kernel_rfl) rfl rfl ?_
                intro a W hx hpre hout hdep
                have ev60 : a.tmps[60]?.getD undef = .pointer (some ⟨pb, 0, none⟩) := by rw [← Array.getD_eq_getD_getElem?]; exact (hdep ⟨18, .data⟩ (by simp) rfl 60 _ rfl).1
                refine ⟨rfl, .pointer (some ⟨pb, 6, none⟩), W, ?_, rfl, Ext.refl _⟩
                simp [ev60, execOp, go_sem]
              · refine softC_none 63 (by kernel_rfl) rfl rfl ?_
                intro a W hx hpre hout hdep
                have ev61 : a.tmps[61]?.getD undef = .pointer (some ⟨pb, 6, none⟩) := by rw [← Array.getD_eq_getD_getElem?]; exact (hdep ⟨19, .data⟩ (by simp) rfl 61 _ rfl).1
                have ev51 : a.tmps[51]?.getD undef = Vq (if keyV x.c x.k < (keyV x.c x.k) then keyV x.c x.k else (keyV x.c x.k)) := by rw [← Array.getD_eq_getD_getElem?]; exact (hdep ⟨9, .data⟩ (by simp) rfl 51 _ rfl).1
                have k6 := hpre.cells.c6
                have f6 := hpre.frozen 6
                refine ⟨rfl, W.setCell ⟨pb, 6, none⟩ (Vq (if keyV x.c x.k < (keyV x.c x.k) then keyV x.c x.k else (keyV x.c x.k))), ?_, RX.set (RX.refl pb W) 6 _ (.inr rfl), hpre.set6 _⟩
                simp [k6, f6, ev61, ev51, execOp, go_sem]
          · refine softW_val 30 _ (by kernel_rfl) rfl rfl ?_
            intro a W hx hpre hout hdep
            have ev3 : a.tmps[3]?.getD undef = .pointer (some ⟨pb, 0, none⟩) := by rw [← Array.getD_eq_getD_getElem?]; exact hout 3 (by show 3 ∉ [30, 31, 32, 33, 34, 35, 36, 37, 38, 39, 41]; decide)
            refine ⟨rfl, .pointer (some ⟨pb, 0, none⟩), W, ?_, rfl, Ext.refl _⟩
            simp [ev3, execOp, go_sem]
          · refine softW_val 31 _ (by kernel_rfl) rfl rfl ?_
            intro a W hx hpre hout hdep
            have ev3 : a.tmps[3]?.getD undef = .pointer (some ⟨pb, 0, none⟩) := by rw [← Array.getD_eq_getD_getElem?]; exact hout 3 (by show 3 ∉ [30, 31, 32, 33, 34, 35, 36, 37, 38, 39, 41]; decide)
            refine ⟨rfl, .pointer (some ⟨pb, 0, none⟩), W, ?_, rfl, Ext.refl _⟩
            simp [ev3, execOp, go_sem]
          · refine softW_val 32 _ (by kernel_rfl) rfl rfl ?_
            intro a W hx hpre hout hdep
            have ev5 : a.tmps[5]?.getD undef = .pointer (some ⟨eb, 0, none⟩) := by rw [← Array.getD_eq_getD_getElem?]; exact hout 5 (by show 5 ∉ [30, 31, 32, 33, 34, 35, 36, 37, 38, 39, 41]; decide)
            refine ⟨rfl, .pointer (some ⟨eb, 0, none⟩), W, ?_, rfl, Ext.refl _⟩
            simp [ev5, execOp, go_sem]
          · refine softW_val 33 _ (by kernel_rfl) rfl rfl ?_
            intro a W hx hpre hout hdep
            have ev32 : a.tmps[32]?.getD undef = .pointer (some ⟨eb, 0, none⟩) := by rw [← Array.getD_eq_getD_getElem?]; exact (hdep ⟨2, .data⟩ (by simp) rfl 32 _ rfl).1
            have q0 := RX.cell hx e0 hne
            have q1 := RX.cell hx e1 hne
            refine ⟨rfl, idv x.c x.k, W, ?_, rfl, Ext.refl _⟩
            simp [ev32, q0, q1, execOp, go_sem]
          · refine softW_call 34 _ (by kernel_rfl) rfl rfl ?_
            intro a W hx hpre hout hdep
            have ev33 : a.tmps[33]?.getD undef = idv x.c x.k := by rw [← Array.getD_eq_getD_getElem?]; exact (hdep ⟨3, .data⟩ (by simp) rfl 33 _ rfl).1
            refine ⟨rfl, 95, #[idv x.c x.k], ?_, ?_⟩
            · simp [ev33, execOp, go_sem]
            · exact (key_any x.c x.k W).mono (by rintro e W1 ⟨rfl, h2⟩; exact ⟨_, rfl, rfl, h2⟩)
          · refine softW_val 35 _ (by kernel_rfl) rfl rfl ?_
            intro a W hx hpre hout hdep
            have ev5 : a.tmps[5]?.getD undef = .pointer (some ⟨eb, 0, none⟩) := by rw [← Array.getD_eq_getD_getElem?]; exact hout 5 (by show 5 ∉ [30, 31, 32, 33, 34, 35, 36, 37, 38, 39, 41]; decide)
            refine ⟨rfl, .pointer (some ⟨eb, 0, none⟩), W, ?_, rfl, Ext.refl _⟩
            simp [ev5, execOp, go_sem]
          · refine softW_val 36 _ (by kernel_rfl) rfl rfl ?_
            intro a W hx hpre hout hdep
            have ev35 : a.tmps[35]?.getD undef = .pointer (some ⟨eb, 0, none⟩) := by rw [← Array.getD_eq_getD_getElem?]; exact (hdep ⟨5, .data⟩ (by simp) rfl 35 _ rfl).1
            have q0 := RX.cell hx e0 hne
            have q1 := RX.cell hx e1 hne
            refine ⟨rfl, idv x.c x.k, W, ?_, rfl, Ext.refl _⟩
            simp [ev35, q0, q1, execOp, go_sem]
          · refine softW_call 37 _ (by kernel_rfl) rfl rfl ?_
            intro a W hx hpre hout hdep
            have ev36 : a.tmps[36]?.getD undef = idv x.c x.k := by rw [← Array.getD_eq_getD_getElem?]; exact (hdep ⟨6, .data⟩ (by simp) rfl 36 _ rfl).1
            refine ⟨rfl, 95, #[idv x.c x.k], ?_, ?_⟩
            · simp [ev36, execOp, go_sem]
            · exact (key_any x.c x.k W).mono (by rintro e W1 ⟨rfl, h2⟩; exact ⟨_, rfl, rfl, h2⟩)
          · refine softW_val 38 _ (by kernel_rfl) rfl rfl ?_
            intro a W hx hpre hout hdep
            have ev30 : a.tmps[30]?.getD undef = .pointer (some ⟨pb, 0, none⟩) := by rw [← Array.getD_eq_getD_getElem?]; exact (hdep ⟨0, .data⟩ (by simp) rfl 30 _ rfl).1
            refine ⟨rfl, .pointer (some ⟨pb, 0, none⟩), W, ?_, rfl, Ext.refl _⟩
            simp [ev30, execOp, go_sem]
          · refine softW_val 39 _ (by kernel_rfl) rfl rfl ?_
            intro a W hx hpre hout hdep
            have ev38 : a.tmps[38]?.getD undef = .pointer (some ⟨pb, 0, none⟩) := by rw [← Array.getD_eq_getD_getElem?]; exact (hdep ⟨8, .data⟩ (by simp) rfl 38 _ rfl).1
            refine ⟨rfl, .pointer (some ⟨pb, 6, none⟩), W, ?_, rfl, Ext.refl _⟩
            simp [ev38, execOp, go_sem]
          · refine softC_none 41 (by kernel_rfl) rfl rfl ?_
            intro a W hx hpre hout hdep
            have ev39 : a.tmps[39]?.getD undef = .pointer (some ⟨pb, 6, none⟩) := by rw [← Array.getD_eq_getD_getElem?]; exact (hdep ⟨9, .data⟩ (by simp) rfl 39 _ rfl).1
            have ev34 : a.tmps[34]?.getD undef = Vq (keyV x.c x.k) := by rw [← Array.getD_eq_getD_getElem?]; exact (hdep ⟨4, .data⟩ (by simp) rfl 34 _ rfl).1
            have k6 := hpre.cells.c6
            have f6 := hpre.frozen 6
            refine ⟨rfl, W.setCell ⟨pb, 6, none⟩ (Vq (keyV x.c x.k)), ?_, RX.set (RX.refl pb W) 6 _ (.inr rfl), hpre.set6 _⟩
            simp [k6, f6, ev39, ev34, execOp, go_sem]
      · have hd0 : ((j : Int) == 0) = false := by simp; omega
        have hlo := loL_step hp h0
        have hhi := hiL_step hp h0
        obtain ⟨lo2, hlo2⟩ : ∃ z, loL (l.take j) = z := ⟨_, rfl⟩
        obtain ⟨hi2, hhi2⟩ : ∃ z, hiL (l.take j) = z := ⟨_, rfl⟩
        rw [hlo2] at hlo hB1 hB
        rw [hhi2] at hhi hB1 hB
        have hl2 := Lib.hid (show loL (l.take (j + 1)) = (if keyV x.c x.k < lo2 then keyV x.c x.k else lo2) by rw [hlo, hke]; split <;> omega)
        have hh2 := Lib.hid (show hiL (l.take (j + 1)) = (if hi2 < keyV x.c x.k then keyV x.c x.k else hi2) by rw [hhi, hke]; split <;> omega)
        clear hlo hhi hlo2 hhi2
        cases hg : x.g with
        | true =>
          rw [hg] at c3 hsh
          have hs2 := Lib.hid (show (((shownE (l.take (j + 1))).length : Nat) : Int) = ((shownE (l.take j)).length : Int) by rw [hsh]; simp)
          replace hW1 := hW1.out
          rw [hg] at hW1
          replace hW1 := Lib.hid hW1
          go_wp2_with fail
          rw [hW1.out, heb.out]
          have hB2 := hB1
          have hX2 := hX1
          clear hB1 hX1 hW1 heb hB hx c0 c1 c2 c3 hsh hp
          obtain ⟨s2, hsd⟩ : ∃ z : Int, ((shownE (l.take j)).length : Int) = z := ⟨_, rfl⟩
          rw [hsd] at hB2
          replace hs2 := Lib.hid (hs2.out.trans hsd)
          clear hsd
          refine wp_soft_frameW (RX pb) 20 (fun W => ChB W pb (.slice (some ⟨b, o, none⟩) n cap) n s2 lo2 hi2) (fun W => ChB W pb (.slice (some ⟨b, o, none⟩) n cap) n s2 (if keyV x.c x.k < lo2 then keyV x.c x.k else lo2) hi2) 21 (ch9Tab pb eb x lo2 hi2) (by kernel_rfl) (by kernel_rfl) (fun _ _ _ => RX.trans) (fun _ _ => RX.ext) (fun _ _ h hh => hh.ext h) (fun _ _ h hh => hh.ext h) (by omega) hB2 rfl (by show List.Nodup [42, 43, 44, 45, 46, 47, 48, 49, 50, 51, 52, 53, 54, 55, 56, 57, 58, 59, 60, 61, 63]; decide) (by show ∀ d ∈ [42, 43, 44, 45, 46, 47, 48, 49, 50, 51, 52, 53, 54, 55, 56, 57, 58, 59, 60, 61, 63], d < 66; decide) (ch9Tab_mono pb eb x lo2 hi2 _) ?_ ⟨?_, ?_, ?_, ?_, ?_, ?_, ?_, ?_, ?_, ?_, ?_, ?_, ?_, ?_, ?_, ?_, ?_, ?_, ?_, ?_, ?_, trivial⟩
          · intro W vs hT hR hPost
            match vs, hT with
            | [v0, v1, v2, v3, v4, v5, v6, v7, v8, v9, v10, v11, v12, v13, v14, v15, v16, v17, v18, v19, v20], ⟨e0, e1, e2, e3, e4, e5, e6, e7, e8, e9, e10, e11, e12, e13, e14, e15, e16, e17, e18, e19, _, _⟩ =>
              simp only [ch9Tab, List.map_cons, List.map_nil, List.zip_cons_cons, List.zip_nil_left, putAll, List.setIfInBounds_toArray, List.set_cons_zero, List.set_cons_succ, List.drop_succ_cons, List.drop_zero]
              simp only at e0 e1 e2 e3 e4 e5 e6 e7 e8 e9 e10 e11 e12 e13 e14 e15 e16 e17 e18 e19
              rw [e0, e1, e2, e3, e4, e5, e6, e7, e8, e9, e10, e11, e12, e13, e14, e15, e16, e17, e18, e19]
              clear e0 e1 e2 e3 e4 e5 e6 e7 e8 e9 e10 e11 e12 e13 e14 e15 e16 e17 e18 e19 v0 v1 v2 v3 v4 v5 v6 v7 v8 v9 v10 v11 v12 v13 v14 v15 v16 v17 v18 v19
              have hX3 := RX.down hX2 hpbw hR
              have k7 := hPost.cells.c7
              have f7 := hPost.frozen 7
              have hB4 := hPost.set7 (if hi2 < keyV x.c x.k then keyV x.c x.k else hi2)
              have hX4 := hX3.setCell (p := ⟨pb, 7, none⟩) hpbw (Vq (if hi2 < keyV x.c x.k then keyV x.c x.k else hi2))
              have hB5 := Lib.hid (show ChB _ pb _ n ((shownE (l.take (j + 1))).length : Int) (loL (l.take (j + 1))) (hiL (l.take (j + 1))) by rw [hs2.out, hl2.out, hh2.out]; exact hB4)
              replace hX4 := Lib.hid hX4
              clear hB4 hX3 hX2 hB2 e0 e1 hs2 hl2 hh2 hPost hR hT
              generalize (if hi2 < keyV x.c x.k then keyV x.c x.k else hi2) = hi3 at *
              go_wp2
              go_roundw
              case rel => exact ⟨j + 1, by omega, by go_num, hX4.out, hB5.out⟩
              case measure => simp [intOf]; try omega
          · refine softW_val 42 _ (by kernel_rfl) rfl rfl ?_
            intro a W hx hpre hout hdep
            have ev3 : a.tmps[3]?.getD undef = .pointer (some ⟨pb, 0, none⟩) := by rw [← Array.getD_eq_getD_getElem?]; exact hout 3 (by show 3 ∉ [42, 43, 44, 45, 46, 47, 48, 49, 50, 51, 52, 53, 54, 55, 56, 57, 58, 59, 60, 61, 63]; decide)
            refine ⟨rfl, .pointer (some ⟨pb, 0, none⟩), W, ?_, rfl, Ext.refl _⟩
            simp [ev3, execOp, go_sem]
          · refine softW_val 43 _ (by kernel_rfl) rfl rfl ?_
            intro a W hx hpre hout hdep
            have ev3 : a.tmps[3]?.getD undef = .pointer (some ⟨pb, 0, none⟩) := by rw [← Array.getD_eq_getD_getElem?]; exact hout 3 (by show 3 ∉ [42, 43, 44, 45, 46, 47, 48, 49, 50, 51, 52, 53, 54, 55, 56, 57, 58, 59, 60, 61, 63]; decide)
            refine ⟨rfl, .pointer (some ⟨pb, 0, none⟩), W, ?_, rfl, Ext.refl _⟩
            simp [ev3, execOp, go_sem]
          · refine softW_val 44 _ (by kernel_rfl) rfl rfl ?_
            intro a W hx hpre hout hdep
            have ev3 : a.tmps[3]?.getD undef = .pointer (some ⟨pb, 0, none⟩) := by rw [← Array.getD_eq_getD_getElem?]; exact hout 3 (by show 3 ∉ [42, 43, 44, 45, 46, 47, 48, 49, 50, 51, 52, 53, 54, 55, 56, 57, 58, 59, 60, 61, 63]; decide)
            refine ⟨rfl, .pointer (some ⟨pb, 0, none⟩), W, ?_, rfl, Ext.refl _⟩
            simp [ev3, execOp, go_sem]
          · refine softW_val 45 _ (by kernel_rfl) rfl rfl ?_
            intro a W hx hpre hout hdep
            have ev44 : a.tmps[44]?.getD undef = .pointer (some ⟨pb, 0, none⟩) := by rw [← Array.getD_eq_getD_getElem?]; exact (hdep ⟨2, .data⟩ (by simp) rfl 44 _ rfl).1
            refine ⟨rfl, .pointer (some ⟨pb, 0, none⟩), W, ?_, rfl, Ext.refl _⟩
            simp [ev44, execOp, go_sem]
          · refine softW_val 46 _ (by kernel_rfl) rfl rfl ?_
            intro a W hx hpre hout hdep
            have ev45 : a.tmps[45]?.getD undef = .pointer (some ⟨pb, 0, none⟩) := by rw [← Array.getD_eq_getD_getElem?]; exact (hdep ⟨3, .data⟩ (by simp) rfl 45 _ rfl).1
            refine ⟨rfl, .pointer (some ⟨pb, 6, none⟩), W, ?_, rfl, Ext.refl _⟩
            simp [ev45, execOp, go_sem]
          · refine softW_val 47 _ (by kernel_rfl) rfl rfl ?_
            intro a W hx hpre hout hdep
            have ev46 : a.tmps[46]?.getD undef = .pointer (some ⟨pb, 6, none⟩) := by rw [← Array.getD_eq_getD_getElem?]; exact (hdep ⟨4, .data⟩ (by simp) rfl 46 _ rfl).1
            have q0 := (hpre (by kernel_rfl)).cells.c6
            refine ⟨rfl, Vq lo2, W, ?_, rfl, Ext.refl _⟩
            simp [ev46, q0, execOp, go_sem]
          · refine softW_val 48 _ (by kernel_rfl) rfl rfl ?_
            intro a W hx hpre hout hdep
            have ev5 : a.tmps[5]?.getD undef = .pointer (some ⟨eb, 0, none⟩) := by rw [← Array.getD_eq_getD_getElem?]; exact hout 5 (by show 5 ∉ [42, 43, 44, 45, 46, 47, 48, 49, 50, 51, 52, 53, 54, 55, 56, 57, 58, 59, 60, 61, 63]; decide)
            refine ⟨rfl, .pointer (some ⟨eb, 0, none⟩), W, ?_, rfl, Ext.refl _⟩
            simp [ev5, execOp, go_sem]
          · refine softW_val 49 _ (by kernel_rfl) rfl rfl ?_
            intro a W hx hpre hout hdep
            have ev48 : a.tmps[48]?.getD undef = .pointer (some ⟨eb, 0, none⟩) := by rw [← Array.getD_eq_getD_getElem?]; exact (hdep ⟨6, .data⟩ (by simp) rfl 48 _ rfl).1
            have q0 := RX.cell hx e0 hne
            have q1 := RX.cell hx e1 hne
            refine ⟨rfl, idv x.c x.k, W, ?_, rfl, Ext.refl _⟩
            simp [ev48, q0, q1, execOp, go_sem]
          · refine softW_call 50 _ (by kernel_rfl) rfl rfl ?_
            intro a W hx hpre hout hdep
            have ev49 : a.tmps[49]?.getD undef = idv x.c x.k := by rw [← Array.getD_eq_getD_getElem?]; exact (hdep ⟨7, .data⟩ (by simp) rfl 49 _ rfl).1
            refine ⟨rfl, 95, #[idv x.c x.k], ?_, ?_⟩
            · simp [ev49, execOp, go_sem]
            · exact (key_any x.c x.k W).mono (by rintro e W1 ⟨rfl, h2⟩; exact ⟨_, rfl, rfl, h2⟩)
          · refine softW_val 51 _ (by kernel_rfl) rfl rfl ?_
            intro a W hx hpre hout hdep
            have ev47 : a.tmps[47]?.getD undef = Vq lo2 := by rw [← Array.getD_eq_getD_getElem?]; exact (hdep ⟨5, .data⟩ (by simp) rfl 47 _ rfl).1
            have ev50 : a.tmps[50]?.getD undef = Vq (keyV x.c x.k) := by rw [← Array.getD_eq_getD_getElem?]; exact (hdep ⟨8, .data⟩ (by simp) rfl 50 _ rfl).1
            refine ⟨rfl, Vq (if keyV x.c x.k < lo2 then keyV x.c x.k else lo2), W, ?_, rfl, Ext.refl _⟩
            simp [ev47, ev50, execOp, go_sem]
          · refine softW_val 52 _ (by kernel_rfl) rfl rfl ?_
            intro a W hx hpre hout hdep
            have ev3 : a.tmps[3]?.getD undef = .pointer (some ⟨pb, 0, none⟩) := by rw [← Array.getD_eq_getD_getElem?]; exact hout 3 (by show 3 ∉ [42, 43, 44, 45, 46, 47, 48, 49, 50, 51, 52, 53, 54, 55, 56, 57, 58, 59, 60, 61, 63]; decide)
            refine ⟨rfl, .pointer (some ⟨pb, 0, none⟩), W, ?_, rfl, Ext.refl _⟩
            simp [ev3, execOp, go_sem]
          · refine softW_val 53 _ (by kernel_rfl) rfl rfl ?_
            intro a W hx hpre hout hdep
            have ev52 : a.tmps[52]?.getD undef = .pointer (some ⟨pb, 0, none⟩) := by rw [← Array.getD_eq_getD_getElem?]; exact (hdep ⟨10, .data⟩ (by simp) rfl 52 _ rfl).1
            refine ⟨rfl, .pointer (some ⟨pb, 0, none⟩), W, ?_, rfl, Ext.refl _⟩
            simp [ev52, execOp, go_sem]
          · refine softW_val 54 _ (by kernel_rfl) rfl rfl ?_
            intro a W hx hpre hout hdep
            have ev53 : a.tmps[53]?.getD undef = .pointer (some ⟨pb, 0, none⟩) := by rw [← Array.getD_eq_getD_getElem?]; exact (hdep ⟨11, .data⟩ (by simp) rfl 53 _ rfl).1
            refine ⟨rfl, .pointer (some ⟨pb, 7, none⟩), W, ?_, rfl, Ext.refl _⟩
            simp [ev53, execOp, go_sem]
          · refine softW_val 55 _ (by kernel_rfl) rfl rfl ?_
            intro a W hx hpre hout hdep
            have ev54 : a.tmps[54]?.getD undef = .pointer (some ⟨pb, 7, none⟩) := by rw [← Array.getD_eq_getD_getElem?]; exact (hdep ⟨12, .data⟩ (by simp) rfl 54 _ rfl).1
            have q0 := (hpre (by kernel_rfl)).cells.c7
            refine ⟨rfl, Vq hi2, W, ?_, rfl, Ext.refl _⟩
            simp [ev54, q0, execOp, go_sem]
          · refine softW_val 56 _ (by kernel_rfl) rfl rfl ?_
            intro a W hx hpre hout hdep
            have ev5 : a.tmps[5]?.getD undef = .pointer (some ⟨eb, 0, none⟩) := by rw [← Array.getD_eq_getD_getElem?]; exact hout 5 (by show 5 ∉ [42, 43, 44, 45, 46, 47, 48, 49, 50, 51, 52, 53, 54, 55, 56, 57, 58, 59, 60, 61, 63]; decide)
            refine ⟨rfl, .pointer (some ⟨eb, 0, none⟩), W, ?_, rfl, Ext.refl _⟩
            simp [ev5, execOp, go_sem]
          · refine softW_val 57 _ (by kernel_rfl) rfl rfl ?_
            intro a W hx hpre hout hdep
            have ev56 : a.tmps[56]?.getD undef = .pointer (some ⟨eb, 0, none⟩) := by rw [← Array.getD_eq_getD_getElem?]; exact (hdep ⟨14, .data⟩ (by simp) rfl 56 _ rfl).1
            have q0 := RX.cell hx e0 hne
            have q1 := RX.cell hx e1 hne
            refine ⟨rfl, idv x.c x.k, W, ?_, rfl, Ext.refl _⟩
            simp [ev56, q0, q1, execOp, go_sem]
          · refine softW_call 58 _ (by kernel_rfl) rfl rfl ?_
            intro a W hx hpre hout hdep
            have ev57 : a.tmps[57]?.getD undef = idv x.c x.k := by rw [← Array.getD_eq_getD_getElem?]; exact (hdep ⟨15, .data⟩ (by simp) rfl 57 _ rfl).1
            refine ⟨rfl, 95, #[idv x.c x.k], ?_, ?_⟩
            · simp [ev57, execOp, go_sem]
            · exact (key_any x.c x.k W).mono (by rintro e W1 ⟨rfl, h2⟩; exact ⟨_, rfl, rfl, h2⟩)
          · refine softW_val 59 _ (by kernel_rfl) rfl rfl ?_
            intro a W hx hpre hout hdep
            have ev55 : a.tmps[55]?.getD undef = Vq hi2 := by rw [← Array.getD_eq_getD_getElem?]; exact (hdep ⟨13, .data⟩ (by simp) rfl 55 _ rfl).1
            have ev58 : a.tmps[58]?.getD undef = Vq (keyV x.c x.k) := by rw [← Array.getD_eq_getD_getElem?]; exact (hdep ⟨16, .data⟩ (by simp) rfl 58 _ rfl).1
            refine ⟨rfl, Vq (if hi2 < keyV x.c x.k then keyV x.c x.k else hi2), W, ?_, rfl, Ext.refl _⟩
            simp [ev55, ev58, execOp, go_sem]
          · refine softW_val 60 _ (by kernel_rfl) rfl rfl ?_
            intro a W hx hpre hout hdep
            have ev42 : a.tmps[42]?.getD undef = .pointer (some ⟨pb, 0, none⟩) := by rw [← Array.getD_eq_getD_getElem?]; exact (hdep ⟨0, .data⟩ (by simp) rfl 42 _ rfl).1
            refine ⟨rfl, .pointer (some ⟨pb, 0, none⟩), W, ?_, rfl, Ext.refl _⟩
            simp [ev42, execOp, go_sem]
          · refine softW_val 61 _ (by kernel_rfl) rfl rfl ?_
            intro a W hx hpre hout hdep
            have ev60 : a.tmps[60]?.getD undef = .pointer (some ⟨pb, 0, none⟩) := by rw [← Array.getD_eq_getD_getElem?]; exact (hdep ⟨18, .data⟩ (by simp) rfl 60 _ rfl).1
            refine ⟨rfl, .pointer (some ⟨pb, 6, none⟩), W, ?_, rfl, Ext.refl _⟩
            simp [ev60, execOp, go_sem]
          · refine softC_none 63 (by kernel_rfl) rfl rfl ?_
            intro a W hx hpre hout hdep
            have ev61 : a.tmps[61]?.getD undef = .pointer (some ⟨pb, 6, none⟩) := by rw [← Array.getD_eq_getD_getElem?]; exact (hdep ⟨19, .data⟩ (by simp) rfl 61 _ rfl).1
            have ev51 : a.tmps[51]?.getD undef = Vq (if keyV x.c x.k < lo2 then keyV x.c x.k else lo2) := by rw [← Array.getD_eq_getD_getElem?]; exact (hdep ⟨9, .data⟩ (by simp) rfl 51 _ rfl).1
            have k6 := hpre.cells.c6
            have f6 := hpre.frozen 6
            refine ⟨rfl, W.setCell ⟨pb, 6, none⟩ (Vq (if keyV x.c x.k < lo2 then keyV x.c x.k else lo2)), ?_, RX.set (RX.refl pb W) 6 _ (.inr rfl), hpre.set6 _⟩
            simp [k6, f6, ev61, ev51, execOp, go_sem]
        | false =>
          rw [hg] at c3 hsh
          replace hW1 := hW1.out
          rw [hg] at hW1
          have p5 := hB1.cells.c5
          have f5 := hB1.frozen 5
          rw [← hW1] at p5 f5
          have hs2 := Lib.hid (show (((shownE (l.take (j + 1))).length : Nat) : Int) = ((shownE (l.take j)).length : Int) + 1 by rw [hsh]; simp)
          have hsb : (shownE (l.take j)).length ≤ 100000 := by
            have h1 := shown_len (l.take j) 0
            have h2 : (l.take j).length ≤ j := by rw [List.length_take]; omega
            unfold shownE
            omega
          have hB2 := hB1.set5 (((shownE (l.take j)).length : Int) + 1)
          have hX2 := hX1.setCell (p := ⟨pb, 5, none⟩) hpbw (Vi (((shownE (l.take j)).length : Int) + 1))
          have e0 := cell_set1 pb 5 (Vi (((shownE (l.take j)).length : Int) + 1)) hne e0
          have e1 := cell_set1 pb 5 (Vi (((shownE (l.take j)).length : Int) + 1)) hne e1
          replace hW1 := Lib.hid hW1
          generalize (shownE (l.take j)).length = s0 at *
          have hwz : IntKind.i64.wrap ((s0 : Int) + 1) = (s0 : Int) + 1 := IntWalk.i64_in _ (by omega)
          go_wp2_with fail
          rw [hW1.out, heb.out]
          generalize W1.setCell ⟨pb, 5, none⟩ (Vi ((s0 : Int) + 1)) = W2 at *
          clear hB1 hX1 hW1 heb hB hx c0 c1 c2 c3 hsh hp p5 f5
          obtain ⟨s2, hsd⟩ : ∃ z : Int, (s0 : Int) + 1 = z := ⟨_, rfl⟩
          rw [hsd] at hB2
          replace hs2 := Lib.hid (hs2.out.trans hsd)
          clear hsd
          refine wp_soft_frameW (RX pb) 20 (fun W => ChB W pb (.slice (some ⟨b, o, none⟩) n cap) n s2 lo2 hi2) (fun W => ChB W pb (.slice (some ⟨b, o, none⟩) n cap) n s2 (if keyV x.c x.k < lo2 then keyV x.c x.k else lo2) hi2) 21 (ch9Tab pb eb x lo2 hi2) (by kernel_rfl) (by kernel_rfl) (fun _ _ _ => RX.trans) (fun _ _ => RX.ext) (fun _ _ h hh => hh.ext h) (fun _ _ h hh => hh.ext h) (by omega) hB2 rfl (by show List.Nodup [42, 43, 44, 45, 46, 47, 48, 49, 50, 51, 52, 53, 54, 55, 56, 57, 58, 59, 60, 61, 63]; decide) (by show ∀ d ∈ [42, 43, 44, 45, 46, 47, 48, 49, 50, 51, 52, 53, 54, 55, 56, 57, 58, 59, 60, 61, 63], d < 66; decide) (ch9Tab_mono pb eb x lo2 hi2 _) ?_ ⟨?_, ?_, ?_, ?_, ?_, ?_, ?_, ?_, ?_, ?_, ?_, ?_, ?_, ?_, ?_, ?_, ?_, ?_, ?_, ?_, ?_, trivial⟩
          · intro W vs hT hR hPost
            match vs, hT with
            | [v0, v1, v2, v3, v4, v5, v6, v7, v8, v9, v10, v11, v12, v13, v14, v15, v16, v17, v18, v19, v20], ⟨e0, e1, e2, e3, e4, e5, e6, e7, e8, e9, e10, e11, e12, e13, e14, e15, e16, e17, e18, e19, _, _⟩ =>
              simp only [ch9Tab, List.map_cons, List.map_nil, List.zip_cons_cons, List.zip_nil_left, putAll, List.setIfInBounds_toArray, List.set_cons_zero, List.set_cons_succ, List.drop_succ_cons, List.drop_zero]
              simp only at e0 e1 e2 e3 e4 e5 e6 e7 e8 e9 e10 e11 e12 e13 e14 e15 e16 e17 e18 e19
              rw [e0, e1, e2, e3, e4, e5, e6, e7, e8, e9, e10, e11, e12, e13, e14, e15, e16, e17, e18, e19]
              clear e0 e1 e2 e3 e4 e5 e6 e7 e8 e9 e10 e11 e12 e13 e14 e15 e16 e17 e18 e19 v0 v1 v2 v3 v4 v5 v6 v7 v8 v9 v10 v11 v12 v13 v14 v15 v16 v17 v18 v19
              have hX3 := RX.down hX2 hpbw hR
              have k7 := hPost.cells.c7
              have f7 := hPost.frozen 7
              have hB4 := hPost.set7 (if hi2 < keyV x.c x.k then keyV x.c x.k else hi2)
              have hX4 := hX3.setCell (p := ⟨pb, 7, none⟩) hpbw (Vq (if hi2 < keyV x.c x.k then keyV x.c x.k else hi2))
              have hB5 := Lib.hid (show ChB _ pb _ n ((shownE (l.take (j + 1))).length : Int) (loL (l.take (j + 1))) (hiL (l.take (j + 1))) by rw [hs2.out, hl2.out, hh2.out]; exact hB4)
              replace hX4 := Lib.hid hX4
              clear hB4 hX3 hX2 hB2 e0 e1 hs2 hl2 hh2 hPost hR hT
              generalize (if hi2 < keyV x.c x.k then keyV x.c x.k else hi2) = hi3 at *
              go_wp2
              go_roundw
              case rel => exact ⟨j + 1, by omega, by go_num, hX4.out, hB5.out⟩
              case measure => simp [intOf]; try omega
          · refine softW_val 42 _ (by kernel_rfl) rfl rfl ?_
            intro a W hx hpre hout hdep
            have ev3 : a.tmps[3]?.getD undef = .pointer (some ⟨pb, 0, none⟩) := by rw [← Array.getD_eq_getD_getElem?]; exact hout 3 (by show 3 ∉ [42, 43, 44, 45, 46, 47, 48, 49, 50, 51, 52, 53, 54, 55, 56, 57, 58, 59, 60, 61, 63]; decide)
            refine ⟨rfl, .pointer (some ⟨pb, 0, none⟩), W, ?_, rfl, Ext.refl _⟩
            simp [ev3, execOp, go_sem]
          · refine softW_val 43 _ (by kernel_rfl) rfl rfl ?_
            intro a W hx hpre hout hdep
            have ev3 : a.tmps[3]?.getD undef = .pointer (some ⟨pb, 0, none⟩) := by rw [← Array.getD_eq_getD_getElem?]; exact hout 3 (by show 3 ∉ [42, 43, 44, 45, 46, 47, 48, 49, 50, 51, 52, 53, 54, 55, 56, 57, 58, 59, 60, 61, 63]; decide)
            refine ⟨rfl, .pointer (some ⟨pb, 0, none⟩), W, ?_, rfl, Ext.refl _⟩
            simp [ev3, execOp, go_sem]
          · refine softW_val 44 _ (by kernel_rfl) rfl rfl ?_
            intro a W hx hpre hout hdep
            have ev3 : a.tmps[3]?.getD undef = .pointer (some ⟨pb, 0, none⟩) := by rw [← Array.getD_eq_getD_getElem?]; exact hout 3 (by show 3 ∉ [42, 43, 44, 45, 46, 47, 48, 49, 50, 51, 52, 53, 54, 55, 56, 57, 58, 59, 60, 61, 63]; decide)
            refine ⟨rfl, .pointer (some ⟨pb, 0, none⟩), W, ?_, rfl, Ext.refl _⟩
            simp [ev3, execOp, go_sem]
          · refine softW_val 45 _ (by kernel_rfl) rfl rfl ?_
            intro a W hx hpre hout hdep
            have ev44 : a.tmps[44]?.getD undef = .pointer (some ⟨pb, 0, none⟩) := by rw [← Array.getD_eq_getD_getElem?]; exact (hdep ⟨2, .data⟩ (by simp) rfl 44 _ rfl).1
            refine ⟨rfl, .pointer (some ⟨pb, 0, none⟩), W, ?_, rfl, Ext.refl _⟩
            simp [ev44, execOp, go_sem]
          · refine softW_val 46 _ (by kernel_rfl) rfl rfl ?_
            intro a W hx hpre hout hdep
            have ev45 : a.tmps[45]?.getD undef = .pointer (some ⟨pb, 0, none⟩) := by rw [← Array.getD_eq_getD_getElem?]; exact (hdep ⟨3, .data⟩ (by simp) rfl 45 _ rfl).1
            refine ⟨rfl, .pointer (some ⟨pb, 6, none⟩), W, ?_, rfl, Ext.refl _⟩
            simp [ev45, execOp, go_sem]
          · refine softW_val 47 _ (by kernel_rfl) rfl rfl ?_
            intro a W hx hpre hout hdep
            have ev46 : a.tmps[46]?.getD undef = .pointer (some ⟨pb, 6, none⟩) := by rw [← Array.getD_eq_getD_getElem?]; exact (hdep ⟨4, .data⟩ (by simp) rfl 46 _ rfl).1
            have q0 := (hpre (by kernel_rfl)).cells.c6
            refine ⟨rfl, Vq lo2, W, ?_, rfl, Ext.refl _⟩
            simp [ev46, q0, execOp, go_sem]
          · refine softW_val 48 _ (by kernel_rfl) rfl rfl ?_
            intro a W hx hpre hout hdep
            have ev5 : a.tmps[5]?.getD undef = .pointer (some ⟨eb, 0, none⟩) := by rw [← Array.getD_eq_getD_getElem?]; exact hout 5 (by show 5 ∉ [42, 43, 44, 45, 46, 47, 48, 49, 50, 51, 52, 53, 54, 55, 56, 57, 58, 59, 60, 61, 63]; decide)
            refine ⟨rfl, .pointer (some ⟨eb, 0, none⟩), W, ?_, rfl, Ext.refl _⟩
            simp [ev5, execOp, go_sem]
          · refine softW_val 49 _ (by kernel_rfl) rfl rfl ?_
            intro a W hx hpre hout hdep
            have ev48 : a.tmps[48]?.getD undef = .pointer (some ⟨eb, 0, none⟩) := by rw [← Array.getD_eq_getD_getElem?]; exact (hdep ⟨6, .data⟩ (by simp) rfl 48 _ rfl).1
            have q0 := RX.cell hx e0 hne
            have q1 := RX.cell hx e1 hne
            refine ⟨rfl, idv x.c x.k, W, ?_, rfl, Ext.refl _⟩
            simp [ev48, q0, q1, execOp, go_sem]
          · refine softW_call 50 _ (by kernel_rfl) rfl rfl ?_
            intro a W hx hpre hout hdep
            have ev49 : a.tmps[49]?.getD undef = idv x.c x.k := by rw [← Array.getD_eq_getD_getElem?]; exact (hdep ⟨7, .data⟩ (by simp) rfl 49 _ rfl).1
            refine ⟨rfl, 95, #[idv x.c x.k], ?_, ?_⟩
            · simp [ev49, execOp, go_sem]
            · exact (key_any x.c x.k W).mono (by rintro e W1 ⟨rfl, h2⟩; exact ⟨_, rfl, rfl, h2⟩)
          · refine softW_val 51 _ (by kernel_rfl) rfl rfl ?_
            intro a W hx hpre hout hdep
            have ev47 : a.tmps[47]?.getD undef = Vq lo2 := by rw [← Array.getD_eq_getD_getElem?]; exact (hdep ⟨5, .data⟩ (by simp) rfl 47 _ rfl).1
            have ev50 : a.tmps[50]?.getD undef = Vq (keyV x.c x.k) := by rw [← Array.getD_eq_getD_getElem?]; exact (hdep ⟨8, .data⟩ (by simp) rfl 50 _ rfl).1
            refine ⟨rfl, Vq (if keyV x.c x.k < lo2 then keyV x.c x.k else lo2), W, ?_, rfl, Ext.refl _⟩
            simp [ev47, ev50, execOp, go_sem]
          · refine softW_val 52 _ (by kernel_rfl) rfl rfl ?_
            intro a W hx hpre hout hdep
            have ev3 : a.tmps[3]?.getD undef = .pointer (some ⟨pb, 0, none⟩) := by rw [← Array.getD_eq_getD_getElem?]; exact hout 3 (by show 3 ∉ [42, 43, 44, 45, 46, 47, 48, 49, 50, 51, 52, 53, 54, 55, 56, 57, 58, 59, 60, 61, 63]; decide)
            refine ⟨rfl, .pointer (some ⟨pb, 0, none⟩), W, ?_, rfl, Ext.refl _⟩
            simp [ev3, execOp, go_sem]
          · refine softW_val 53 _ (by kernel_rfl) rfl rfl ?_
            intro a W hx hpre hout hdep
            have ev52 : a.tmps[52]?.getD undef = .pointer (some ⟨pb, 0, none⟩) := by rw [← Array.getD_eq_getD_getElem?]; exact (hdep ⟨10, .data⟩ (by simp) rfl 52 _ rfl).1
            refine ⟨rfl, .pointer (some ⟨pb, 0, none⟩), W, ?_, rfl, Ext.refl _⟩
            simp [ev52, execOp, go_sem]
          · refine softW_val 54 _ (by kernel_rfl) rfl rfl ?_
            intro a W hx hpre hout hdep
            have ev53 : a.tmps[53]?.getD undef = .pointer (some ⟨pb, 0, none⟩) := by rw [← Array.getD_eq_getD_getElem?]; exact (hdep ⟨11, .data⟩ (by simp) rfl 53 _ rfl).1
            refine ⟨rfl, .pointer (some ⟨pb, 7, none⟩), W, ?_, rfl, Ext.refl _⟩
            simp [ev53, execOp, go_sem]
          · refine softW_val 55 _ (by kernel_rfl) rfl rfl ?_
            intro a W hx hpre hout hdep
            have ev54 : a.tmps[54]?.getD undef = .pointer (some ⟨pb, 7, none⟩) := by rw [← Array.getD_eq_getD_getElem?]; exact (hdep ⟨12, .data⟩ (by simp) rfl 54 _ rfl).1
            have q0 := (hpre (by kernel_rfl)).cells.c7
            refine ⟨rfl, Vq hi2, W, ?_, rfl, Ext.refl _⟩
            simp [ev54, q0, execOp, go_sem]
          · refine softW_val 56 _ (by kernel_rfl) rfl rfl ?_
            intro a W hx hpre hout hdep
            have ev5 : a.tmps[5]?.getD undef = .pointer (some ⟨eb, 0, none⟩) := by rw [← Array.getD_eq_getD_getElem?]; exact hout 5 (by show 5 ∉ [42, 43, 44, 45, 46, 47, 48, 49, 50, 51, 52, 53, 54, 55, 56, 57, 58, 59, 60, 61, 63]; decide)
            refine ⟨rfl, .pointer (some ⟨eb, 0, none⟩), W, ?_, rfl, Ext.refl _⟩
            simp [ev5, execOp, go_sem]
          · refine softW_val 57 _ (by kernel_rfl) rfl rfl ?_
            intro a W hx hpre hout hdep
            have ev56 : a.tmps[56]?.getD undef = .pointer (some ⟨eb, 0, none⟩) := by rw [← Array.getD_eq_getD_getElem?]; exact (hdep ⟨14, .data⟩ (by simp) rfl 56 _ rfl).1
            have q0 := RX.cell hx e0 hne
            have q1 := RX.cell hx e1 hne
            refine ⟨rfl, idv x.c x.k, W, ?_, rfl, Ext.refl _⟩
            simp [ev56, q0, q1, execOp, go_sem]
          · refine softW_call 58 _ (by kernel_rfl) rfl rfl ?_
            intro a W hx hpre hout hdep
            have ev57 : a.tmps[57]?.getD undef = idv x.c x.k := by rw [← Array.getD_eq_getD_getElem?]; exact (hdep ⟨15, .data⟩ (by simp) rfl 57 _ rfl).1
            refine ⟨rfl, 95, #[idv x.c x.k], ?_, ?_⟩
            · simp [ev57, execOp, go_sem]
            · exact (key_any x.c x.k W).mono (by rintro e W1 ⟨rfl, h2⟩; exact ⟨_, rfl, rfl, h2⟩)
          · refine softW_val 59 _ (by kernel_rfl) rfl rfl ?_
            intro a W hx hpre hout hdep
            have ev55 : a.tmps[55]?.getD undef = Vq hi2 := by rw [← Array.getD_eq_getD_getElem?]; exact (hdep ⟨13, .data⟩ (by simp) rfl 55 _ rfl).1
            have ev58 : a.tmps[58]?.getD undef = Vq (keyV x.c x.k) := by rw [← Array.getD_eq_getD_getElem?]; exact (hdep ⟨16, .data⟩ (by simp) rfl 58 _ rfl).1
            refine ⟨rfl, Vq (if hi2 < keyV x.c x.k then keyV x.c x.k else hi2), W, ?_, rfl, Ext.refl _⟩
            simp [ev55, ev58, execOp, go_sem]
          · refine softW_val 60 _ (by kernel_rfl) rfl rfl ?_
            intro a W hx hpre hout hdep
            have ev42 : a.tmps[42]?.getD undef = .pointer (some ⟨pb, 0, none⟩) := by rw [← Array.getD_eq_getD_getElem?]; exact (hdep ⟨0, .data⟩ (by simp) rfl 42 _ rfl).1
            refine ⟨rfl, .pointer (some ⟨pb, 0, none⟩), W, ?_, rfl, Ext.refl _⟩
            simp [ev42, execOp, go_sem]
          · refine softW_val 61 _ (by kernel_rfl) rfl rfl ?_
            intro a W hx hpre hout hdep
            have ev60 : a.tmps[60]?.getD undef = .pointer (some ⟨pb, 0, none⟩) := by rw [← Array.getD_eq_getD_getElem?]; exact (hdep ⟨18, .data⟩ (by simp) rfl 60 _ rfl).1
            refine ⟨rfl, .pointer (some ⟨pb, 6, none⟩), W, ?_, rfl, Ext.refl _⟩
            simp [ev60, execOp, go_sem]
          · refine softC_none 63 (by kernel_rfl) rfl rfl ?_
            intro a W hx hpre hout hdep
            have ev61 : a.tmps[61]?.getD undef = .pointer (some ⟨pb, 6, none⟩) := by rw [← Array.getD_eq_getD_getElem?]; exact (hdep ⟨19, .data⟩ (by simp) rfl 61 _ rfl).1
            have ev51 : a.tmps[51]?.getD undef = Vq (if keyV x.c x.k < lo2 then keyV x.c x.k else lo2) := by rw [← Array.getD_eq_getD_getElem?]; exact (hdep ⟨9, .data⟩ (by simp) rfl 51 _ rfl).1
            have k6 := hpre.cells.c6
            have f6 := hpre.frozen 6
            refine ⟨rfl, W.setCell ⟨pb, 6, none⟩ (Vq (if keyV x.c x.k < lo2 then keyV x.c x.k else lo2)), ?_, RX.set (RX.refl pb W) 6 _ (.inr rfl), hpre.set6 _⟩
            simp [k6, f6, ev61, ev51, execOp, go_sem]
    · have e : l.take j = l := List.take_of_length_le (by rw [hn.out]; omega)
      rw [e] at hB
      have hz := Lib.hid (hend.out _ hx hB)
      go_wp2
      go_ret
      exact hz.out

end Go.Proofs.Ytmpomammieenjaa
