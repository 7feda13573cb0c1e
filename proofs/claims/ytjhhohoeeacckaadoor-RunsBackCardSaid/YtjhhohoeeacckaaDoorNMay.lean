/-
  Contract of runs.May; no claim stands here.
-/
import Derived.Test.YtjhhohoeeacckaaDoorNMayR
import Derived.Test.YtjhhohoeeacckaaDoorLayWr
import Derived.Test.YtjhhohoeeacckaaDoorSoft2
namespace Go.Proofs.YtjhhohoeeacckaaDoor
open Go.ChangeShapes Go.WideShapes Go.ChangeAt Go.RowKit Go.Sort
set_option linter.unusedVariables false
attribute [local go_sem] World.cell?_alloc_some

theorem text_nil (l : List UInt8) (W : World) : (binOp .eql 9 (.string ⟨l.toArray⟩) (.string ⟨#[]⟩)).run Tryd.prog W = .ok (.bool l.isEmpty) W := by
  simp [go_sem]
attribute [local go_sem ↓] text_nil

/-- MARK: from here on by genmay.py -/
def IdBlk (W : World) (q : Nat) : Prop := ∃ u v, W.heap[q]? = some (.cells #[Vu u, Vu v] 27 (0, 0))
theorem IdBlk.new (W : World) : IdBlk (W.alloc (.cells #[Vu 0, Vu 0] 27)) W.heap.size := ⟨0, 0, heap_alloc_new W _⟩
/-- how the world goes on in May's statement -/
def MRel (B : Nat) (W W' : World) : Prop := Below B W W' ∧ ∀ q, IdBlk W q → IdBlk W' q
theorem MRel.refl (B : Nat) (W : World) : MRel B W W := ⟨Below.refl _ _, fun _ h => h⟩
theorem MRel.trans {B : Nat} (a b c : World) (h : MRel B a b) (k : MRel B b c) : MRel B a c := ⟨h.1.trans k.1, fun q hq => k.2 q (h.2 q hq)⟩
theorem MRel.ext {B : Nat} {w W W' : World} (hx : Below B w W ∧ ∀ q, IdBlk w q → IdBlk W q) (h : Ext W W') (hB : B ≤ w.heap.size := by assumption) : MRel B W W' := by
  refine ⟨Below.mono h (Nat.le_trans hB hx.1.size), fun q hq => ?_⟩
  obtain ⟨u, v, hq⟩ := hq
  exact ⟨u, v, by rw [RowKit.Below.block h q (Array.getElem?_eq_some_iff.1 hq).1]; exact hq⟩
theorem MRel.alloc {B : Nat} {w W : World} (hx : Below B w W ∧ ∀ q, IdBlk w q → IdBlk W q) (o : Obj) (hB : B ≤ w.heap.size := by assumption) : MRel B W (W.alloc o) := MRel.ext hx ((Ext.refl W).alloc o) hB
theorem MRel.store {B : Nat} {w W : World} {q : Nat} {x y : Int} (hx : Below B w W ∧ ∀ q, IdBlk w q → IdBlk W q) (hq : B ≤ q) : MRel B W ((W.setCell ⟨q, 0, none⟩ (Vu x)).setCell ⟨q, 1, none⟩ (Vu y)) := by
  refine ⟨((Below.refl _ _).setCell hq _).setCell hq _, fun q' hb => ?_⟩
  obtain ⟨u, v, hb⟩ := hb
  by_cases he : q' = q
  · subst he
    exact ⟨x, y, heap_setCell_same _ _ 1 _ _ _ (heap_setCell_same _ _ 0 _ _ _ hb)⟩
  · exact ⟨u, v, by rw [heap_setCell_other _ _ _ _ he, heap_setCell_other _ _ _ _ he]; exact hb⟩
/-- what the slots hold -/
def mayTab (B pa n : Nat) (r : Rn) (x y : Int) (E : Value) : SoftTab := [(15, fun z9 W => z9 = .pointer (some ⟨pa, 0, none⟩)),
  (16, fun z9 W => z9 = idv r.c r.k),
  (17, fun z9 W => z9 = .pointer (some ⟨pa, 6, none⟩)),
  (18, fun z9 W => z9 = .string ⟨r.t.toArray⟩),
  (19, fun z9 W => z9 = Vi (n : Int)),
  (20, fun z9 W => z9 = Vi ((n : Int) - 1)),
  (21, fun z9 W => z9 = .tuple #[idv x y, E]),
  (14, fun z9 W => z9 = .tuple #[idv x y, E]),
  (22, fun z9 W => z9 = idv x y),
  (23, fun z9 W => z9 = E),
  (3, fun z9 W => ∃ q, z9 = .pointer (some ⟨q, 0, none⟩) ∧ B ≤ q ∧ IdBlk W q),
  (5, fun z9 W => True)]
theorem mayTab_mono (B pa n : Nat) (r : Rn) (x y : Int) (E : Value) : SoftMonoR (MRel B) (mayTab B pa n r x y E) := by
  intro p hp v W W' h hx
  simp only [mayTab, List.mem_cons, List.not_mem_nil, or_false] at hp
  rcases hp with rfl | rfl | rfl | rfl | rfl | rfl | rfl | rfl | rfl | rfl | rfl | rfl
  all_goals first
    | exact h
    | (obtain ⟨q, h1, h2, h3⟩ := h
       exact ⟨q, h1, h2, hx.2 q h3⟩)

set_option maxRecDepth 100000 in
set_option maxHeartbeats 4000000 in
theorem may_any (r : Rn) (w : World) (hT : Tabs w) (hk0 : 0 ≤ r.k) (hk1 : r.k ≤ 4294967295) (ht : r.t.length ≤ 200000) :
    Calls Tryd.prog 7 #[rnv r] w fun e w' => e = .returned (.bool (mayN r)) ∧ Ext w w' := by
  have hl := runesD_len r.t
  have hsz : (⟨r.t.toArray⟩ : ByteArray).size = r.t.length := by show r.t.toArray.size = _; simp
  have hv := Lib.hid (fun W (hx : Ext w W) => validStr_any ⟨r.t.toArray⟩ W (by rw [hsz]; omega) (hT.ext hx))
  have hcnt := Lib.hid (fun W => runeCount_any ⟨r.t.toArray⟩ W (by rw [hsz]; omega))
  rw [runeCount_D] at hcnt
  replace hcnt : Hid (∀ (W : World), Calls Tryd.prog 18 #[.string ⟨r.t.toArray⟩] W fun e w' => e = .returned (.int .i64 ((runesD r.t).length : Int)) ∧ Ext W w') := hcnt
  replace hv : Hid (∀ (W : World), Ext w W → Calls Tryd.prog 16 #[.string ⟨r.t.toArray⟩] W fun e w' => e = .returned (.bool (Lib.validD r.t)) ∧ Ext W w') := hv
  clear hsz
  cases he : r.t.isEmpty with
  | true =>
    have hm := Lib.hid (may_false (r := r) (.inr (.inl (by rw [List.isEmpty_iff.1 he, runesD_nil]; rfl))))
    clear hv hcnt
    go_enter Tryd.func7, Tryd.ntmps7
    go_wp2
    go_ret
    exact ⟨ret_bool (a := false) hm.out.symm, (Ext.refl _).alloc _⟩
  | false =>
    have hpos : 0 < (runesD r.t).length := by
      have hne : r.t ≠ [] := by intro e; rw [e] at he; simp at he
      rw [runesD_step _ hne]
      simp
    cases hva : Lib.validD r.t with
    | false =>
      have hm := Lib.hid (may_false (r := r) (.inl hva))
      rw [hva] at hv
      clear hcnt hva
      go_enter Tryd.func7, Tryd.ntmps7
      go_wp2_with fail
      refine (hv.out _ ((Ext.refl _).alloc _)).mono ?_
      rintro e w1 ⟨rfl, x1⟩
      go_wp2
      go_ret
      exact ⟨ret_bool (a := false) hm.out.symm, ((Ext.refl _).alloc _).trans x1⟩
    | true =>
      rw [hva] at hv
      have hn : (runesD r.t).length ≤ 200000 := by omega
      obtain ⟨n, hcn⟩ : ∃ n, (runesD r.t).length = n := ⟨_, rfl⟩
      rw [hcn] at hcnt hpos hn
      obtain ⟨x, y, E, be, hE, haft, hm⟩ : ∃ (x y : Int) (E : Value) (be : Bool), ((E = .nilIface ∧ be = true) ∨ (∃ z : Int, E = .iface 62 (.int .i64 z) ∧ be = false)) ∧
          Hid (∀ W, Calls Tryd.prog 17 #[idv r.c r.k, Vi ((n : Int) - 1), Vu 4294967294] W fun e w' => e = .returned (.tuple #[idv x y, E]) ∧ Ext W w') ∧ Hid (mayN r = be) := by
        by_cases hb : r.c = 0 ∨ 4294967294 < r.k + (n : Int) - 1
        · obtain ⟨z, hz, ha⟩ : ∃ z : Int, z ≠ 0 ∧ aftId r.c r.k ((n : Int) - 1) 4294967294 = (0, 0, z) := by
            unfold aftId
            by_cases h0 : r.c = 0
            · exact ⟨1, by omega, by rw [if_pos (by omega)]⟩
            · exact ⟨4, by omega, by rw [if_neg (by omega), if_pos (by omega)]⟩
          exact ⟨0, 0, _, false, .inr ⟨z, rfl, rfl⟩, Lib.hid (fun W => after_err W ha hz hk0 hk1 (by omega) (by omega) (by omega) (by omega)), Lib.hid (may_false (by rw [hcn]; rcases hb with h | h <;> simp [h]))⟩
        · have ha : aftId r.c r.k ((n : Int) - 1) 4294967294 = (r.c, r.k + ((n : Int) - 1), 0) := by
            unfold aftId
            rw [if_neg (by omega), if_neg (by omega)]
          exact ⟨_, _, _, true, .inl ⟨rfl, rfl⟩, Lib.hid (fun W => after_nil W ha hk0 hk1 (by omega) (by omega) (by omega) (by omega)), Lib.hid (may_true hva (by rw [hcn]; omega) (by omega) (by rw [hcn]; omega))⟩
      have hsub : IntKind.i64.wrap ((n : Int) - 1) = (n : Int) - 1 := IntWalk.i64_in _ (by omega)
      clear hva hcn hl
      go_enter Tryd.func7, Tryd.ntmps7
      go_wp2_with fail
      refine (hv.out _ ((Ext.refl _).alloc _)).mono ?_
      rintro e w1 ⟨rfl, x1⟩
      have a0 := x1.keep (p := ⟨w.heap.size, 0, none⟩) (v := Vu r.c) (by simp [go_sem])
      have a1 := x1.keep (p := ⟨w.heap.size, 1, none⟩) (v := Vu r.k) (by simp [go_sem])
      have a6 := x1.keep (p := ⟨w.heap.size, 6, none⟩) (v := .string ⟨r.t.toArray⟩) (by simp [go_sem])
      replace x1 := ((Ext.refl w).alloc _).trans x1
      have hpa : w.heap.size < w1.heap.size := World.block_lt_of_cell? _ _ a0
      generalize w.heap.size = pa at *
      obtain ⟨B, hBd⟩ : ∃ B, w1.heap.size = B := ⟨_, rfl⟩
      have hB : B ≤ w1.heap.size := by omega
      have hK : ∀ W, MRel B w1 W → ∀ {j : Nat} {v : Value}, w1.cell? ⟨pa, j, none⟩ = some v → W.cell? ⟨pa, j, none⟩ = some v := fun W hW j v h => by rw [RowKit.Below.cell (p := ⟨pa, j, none⟩) hW.1 (by show pa < B; omega)]; exact h
      go_wp2_with fail
      refine wp_soft_frame (MRel B) 12 (mayTab B pa n r x y E) (by kernel_rfl) (by kernel_rfl) MRel.trans ⟨(Below.refl _ _).drew, fun _ h => h⟩ rfl (by show List.Nodup [15, 16, 17, 18, 19, 20, 21, 14, 22, 23, 3, 5]; decide) (by show ∀ d ∈ [15, 16, 17, 18, 19, 20, 21, 14, 22, 23, 3, 5], d < 26; decide) (mayTab_mono B pa n r x y E) ?_ ⟨?_, ?_, ?_, ?_, ?_, ?_, ?_, ?_, ?_, ?_, ?_, ?_, trivial⟩
      · intro W vs hT hR
        match vs, hT with
        | [v0, v1, v2, v3, v4, v5, v6, v7, v8, v9, v10, v11], ⟨e0, e1, e2, e3, e4, e5, e6, e7, e8, e9, e10, e11, _⟩ =>
          simp only [mayTab, List.map_cons, List.map_nil, List.zip_cons_cons, List.zip_nil_left, putAll, List.setIfInBounds_toArray, List.set_cons_zero, List.set_cons_succ, List.drop_succ_cons, List.drop_zero]
          simp only at e0 e1 e2 e3 e4 e5 e6 e7 e8 e9 e10 e11
          obtain ⟨q, e10, _, _⟩ := e10
          rw [e0, e1, e2, e3, e4, e5, e6, e7, e8, e9, e10]
          have hE2 : Ext w W := x1.trans (by have h1 := hR.1; rw [← hBd] at h1; exact h1)
          clear e0 e1 e2 e3 e4 e5 e6 e7 e8 e9 e10 e11 v0 v1 v2 v3 v4 v5 v6 v7 v8 v9 v10 hT a0 a1 a6 hK hR x1 hsub hpos hn haft
          rcases hE with ⟨rfl, rfl⟩ | ⟨z, rfl, rfl⟩
          · go_wp2
            go_ret
            exact ⟨ret_bool (a := true) hm.out.symm, hE2⟩
          · go_wp2
            go_ret
            exact ⟨ret_bool (a := false) hm.out.symm, hE2⟩
      · refine softR_val 15 _ (by kernel_rfl) rfl rfl ?_
        intro a W hx hout hdep
        have ev1 : a.tmps[1]?.getD undef = .pointer (some ⟨pa, 0, none⟩) := by rw [← Array.getD_eq_getD_getElem?]; exact hout 1 (by show 1 ∉ [15, 16, 17, 18, 19, 20, 21, 14, 22, 23, 3, 5]; decide)
        refine ⟨rfl, .pointer (some ⟨pa, 0, none⟩), W, ?_, rfl, MRel.refl _ _⟩
        simp [ev1, execOp, go_sem]
      · refine softR_val 16 _ (by kernel_rfl) rfl rfl ?_
        intro a W hx hout hdep
        have ev15 : a.tmps[15]?.getD undef = .pointer (some ⟨pa, 0, none⟩) := by rw [← Array.getD_eq_getD_getElem?]; exact (hdep ⟨0, .data⟩ (by simp) rfl 15 _ rfl).1
        have q0 := hK W hx a0
        have q1 := hK W hx a1
        refine ⟨rfl, idv r.c r.k, W, ?_, rfl, MRel.refl _ _⟩
        simp [ev15, q0, q1, execOp, go_sem]
      · refine softR_val 17 _ (by kernel_rfl) rfl rfl ?_
        intro a W hx hout hdep
        have ev1 : a.tmps[1]?.getD undef = .pointer (some ⟨pa, 0, none⟩) := by rw [← Array.getD_eq_getD_getElem?]; exact hout 1 (by show 1 ∉ [15, 16, 17, 18, 19, 20, 21, 14, 22, 23, 3, 5]; decide)
        refine ⟨rfl, .pointer (some ⟨pa, 6, none⟩), W, ?_, rfl, MRel.refl _ _⟩
        simp [ev1, execOp, go_sem]
      · refine softR_val 18 _ (by kernel_rfl) rfl rfl ?_
        intro a W hx hout hdep
        have ev17 : a.tmps[17]?.getD undef = .pointer (some ⟨pa, 6, none⟩) := by rw [← Array.getD_eq_getD_getElem?]; exact (hdep ⟨2, .data⟩ (by simp) rfl 17 _ rfl).1
        have q6 := hK W hx a6
        refine ⟨rfl, .string ⟨r.t.toArray⟩, W, ?_, rfl, MRel.refl _ _⟩
        simp [ev17, q6, execOp, go_sem]
      · refine softR_call 19 _ (by kernel_rfl) rfl rfl ?_
        intro a W hx hout hdep
        have ev18 : a.tmps[18]?.getD undef = .string ⟨r.t.toArray⟩ := by rw [← Array.getD_eq_getD_getElem?]; exact (hdep ⟨3, .data⟩ (by simp) rfl 18 _ rfl).1
        refine ⟨rfl, 18, #[.string ⟨r.t.toArray⟩], ?_, ?_⟩
        · simp [ev18, execOp, go_sem]
        · exact (hcnt.out W).mono (by rintro e W1 ⟨rfl, h⟩; exact ⟨_, rfl, rfl, MRel.ext hx h⟩)
      · refine softR_val 20 _ (by kernel_rfl) rfl rfl ?_
        intro a W hx hout hdep
        have ev19 : a.tmps[19]?.getD undef = Vi (n : Int) := by rw [← Array.getD_eq_getD_getElem?]; exact (hdep ⟨4, .data⟩ (by simp) rfl 19 _ rfl).1
        refine ⟨rfl, Vi ((n : Int) - 1), W, ?_, rfl, MRel.refl _ _⟩
        simp [ev19, hsub, execOp, go_sem]
      · refine softR_call 21 _ (by kernel_rfl) rfl rfl ?_
        intro a W hx hout hdep
        have ev16 : a.tmps[16]?.getD undef = idv r.c r.k := by rw [← Array.getD_eq_getD_getElem?]; exact (hdep ⟨1, .data⟩ (by simp) rfl 16 _ rfl).1
        have ev20 : a.tmps[20]?.getD undef = Vi ((n : Int) - 1) := by rw [← Array.getD_eq_getD_getElem?]; exact (hdep ⟨5, .data⟩ (by simp) rfl 20 _ rfl).1
        refine ⟨rfl, 17, #[idv r.c r.k, Vi ((n : Int) - 1), Vu 4294967294], ?_, ?_⟩
        · simp [ev16, ev20, execOp, go_sem]
        · exact (haft.out W).mono (by rintro e W1 ⟨rfl, h⟩; exact ⟨_, rfl, rfl, MRel.ext hx h⟩)
      · refine softR_val 14 _ (by kernel_rfl) rfl rfl ?_
        intro a W hx hout hdep
        have ev21 : a.tmps[21]?.getD undef = .tuple #[idv x y, E] := by rw [← Array.getD_eq_getD_getElem?]; exact (hdep ⟨6, .data⟩ (by simp) rfl 21 _ rfl).1
        refine ⟨rfl, .tuple #[idv x y, E], W, ?_, rfl, MRel.refl _ _⟩
        simp [ev21, execOp, go_sem]
      · refine softR_val 22 _ (by kernel_rfl) rfl rfl ?_
        intro a W hx hout hdep
        have ev14 : a.tmps[14]?.getD undef = .tuple #[idv x y, E] := by rw [← Array.getD_eq_getD_getElem?]; exact (hdep ⟨7, .data⟩ (by simp) rfl 14 _ rfl).1
        refine ⟨rfl, idv x y, W, ?_, rfl, MRel.refl _ _⟩
        simp [ev14, execOp, go_sem]
      · refine softR_val 23 _ (by kernel_rfl) rfl rfl ?_
        intro a W hx hout hdep
        have ev14 : a.tmps[14]?.getD undef = .tuple #[idv x y, E] := by rw [← Array.getD_eq_getD_getElem?]; exact (hdep ⟨7, .data⟩ (by simp) rfl 14 _ rfl).1
        refine ⟨rfl, E, W, ?_, rfl, MRel.refl _ _⟩
        simp [ev14, execOp, go_sem]
      · refine softR_val 3 _ (by kernel_rfl) rfl rfl ?_
        intro a W hx hout hdep
        refine ⟨rfl, .pointer (some ⟨W.heap.size, 0, none⟩), W.alloc (.cells #[Vu 0, Vu 0] 27), ?_, ⟨_, rfl, Nat.le_trans hB hx.1.size, IdBlk.new W⟩, MRel.alloc hx _⟩
        simp [execOp, go_sem]
      · refine softR_none 5 (by kernel_rfl) rfl rfl ?_
        intro a W hx hout hdep
        have tl3 := (hdep ⟨10, .data⟩ (by simp) rfl 3 _ rfl).1
        have ev22 : a.tmps[22]?.getD undef = idv x y := by rw [← Array.getD_eq_getD_getElem?]; exact (hdep ⟨8, .data⟩ (by simp) rfl 22 _ rfl).1
        obtain ⟨q, eq, hq, hb⟩ := tl3
        obtain ⟨u, v, hb⟩ := hb
        have f0 := frozen_of_row W q 0 _ _ hb
        have f1 := frozen_of_row W q 1 _ _ hb
        have g0 := cell_of_row W q 0 _ _ _ hb
        have g1 := cell_of_row W q 1 _ _ _ hb
        rw [Array.getD_eq_getD_getElem?] at eq
        refine ⟨rfl, (W.setCell ⟨q, 0, none⟩ (Vu x)).setCell ⟨q, 1, none⟩ (Vu y), ?_, MRel.store hx hq⟩
        simp [eq, f0, f1, g0, g1, ev22, execOp, go_sem]

end Go.Proofs.YtjhhohoeeacckaaDoor
