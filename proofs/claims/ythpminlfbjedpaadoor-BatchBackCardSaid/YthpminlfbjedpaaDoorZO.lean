/-
  Several texts of this seat in one file, each in the namespace again; no claim stands here.
-/
import Derived.Shelf.Strings.BuilderRune
import Derived.Shelf.Strings.BuilderK
import Derived.Shelf.Utf8.RuneCount
import Derived.Shelf.Unicode.ValidAny
import Derived.Lib.ValidAsc
import Derived.Test.YthpminlfbjedpaaDoorLayRn
import Derived.Test.YthpminlfbjedpaaDoorZH
import Derived.Test.YthpminlfbjedpaaDoorZM
import Derived.Test.YthpminlfbjedpaaDoorZL
import Derived.Test.YthpminlfbjedpaaDoorBMay
namespace Go.Proofs.YthpminlfbjedpaaDoor
open Go.Shelf
set_option linter.unusedVariables false

def renWr : Go.Shelf.Ren := ⟨fun | 168 => 63 | 240 => 66 | 242 => 67 | 276 => 69 | 278 => 70 | n => n,
  fun | 0 => 0 | 3 => 3 | 4 => 4 | 5 => 5 | 9 => 9 | 20 => 20 | 21 => 21 | 37 => 26 | 46 => 98 | 51 => 45 | 70 => 117 | 72 => 119 | 75 => 31 | 80 => 103 | 164 => 126 | n => n, fun | n => n⟩
theorem laysWr : Go.Proofs.Lays.n168 Tryd.prog renWr := {
  mixed := by kernel_rfl
  f168 := Tryd.func63.trans (congrArg some (by kernel_rfl))
  f240 := Tryd.func66.trans (congrArg some (by kernel_rfl))
  f242 := Tryd.func67.trans (congrArg some (by kernel_rfl))
  f276 := Tryd.func69.trans (congrArg some (by kernel_rfl))
  f278 := Tryd.func70.trans (congrArg some (by kernel_rfl))
  t0 := Tryd.underlying0
  a0 := Tryd.isAgg0
  z0 := Tryd.sizeOf0
  v0 := Tryd.zeroValue0
  t3 := Tryd.underlying3
  a3 := Tryd.isAgg3
  z3 := Tryd.sizeOf3
  v3 := Tryd.zeroValue3
  t4 := Tryd.underlying4
  a4 := Tryd.isAgg4
  z4 := Tryd.sizeOf4
  v4 := Tryd.zeroValue4
  t5 := Tryd.underlying5
  a5 := Tryd.isAgg5
  z5 := Tryd.sizeOf5
  v5 := Tryd.zeroValue5
  t9 := Tryd.underlying9
  a9 := Tryd.isAgg9
  z9 := Tryd.sizeOf9
  v9 := Tryd.zeroValue9
  t20 := Tryd.underlying20
  a20 := Tryd.isAgg20
  z20 := Tryd.sizeOf20
  v20 := Tryd.zeroValue20
  t21 := Tryd.underlying21
  a21 := Tryd.isAgg21
  z21 := Tryd.sizeOf21
  v21 := Tryd.zeroValue21
  t37 := Tryd.underlying26
  a37 := Tryd.isAgg26
  z37 := Tryd.sizeOf26
  v37 := Tryd.zeroValue26
  t46 := Tryd.underlying98
  a46 := Tryd.isAgg98
  z46 := Tryd.sizeOf98
  v46 := Tryd.zeroValue98
  t51 := Tryd.underlying45
  a51 := Tryd.isAgg45
  z51 := Tryd.sizeOf45
  v51 := Tryd.zeroValue45
  t70 := Tryd.underlying117
  a70 := Tryd.isAgg117
  z70 := Tryd.sizeOf117
  v70 := Tryd.zeroValue117
  t72 := Tryd.underlying119
  a72 := Tryd.isAgg119
  z72 := Tryd.sizeOf119
  v72 := Tryd.zeroValue119
  t75 := Tryd.underlying31
  a75 := Tryd.isAgg31
  z75 := Tryd.sizeOf31
  v75 := Tryd.zeroValue31
  t164 := Tryd.underlying126
  a164 := Tryd.isAgg126
  z164 := Tryd.sizeOf126
  v164 := Tryd.zeroValue126 }

theorem extraWr : Builder.Extra Tryd.prog renWr where
  sizeBuilder := by kernel_rfl
  liesBuilder := by kernel_rfl
  t5 := Tryd.underlying5
  a5 := Tryd.isAgg5
  z5 := Tryd.sizeOf5
  v5 := Tryd.zeroValue5
  infoByte := by kernel_rfl
  cellsByte := by kernel_rfl
  sizeByte := by kernel_rfl
  neB5 := by decide
theorem extraStr : Builder.Extra Tryd.prog Tryd.laysString_ren where
  sizeBuilder := by kernel_rfl
  liesBuilder := by kernel_rfl
  t5 := Tryd.underlying5
  a5 := Tryd.isAgg5
  z5 := Tryd.sizeOf5
  v5 := Tryd.zeroValue5
  infoByte := by kernel_rfl
  cellsByte := by kernel_rfl
  sizeByte := by kernel_rfl
  neB5 := by decide
/-- a builder that holds these bytes -/
def Bld (B b : Nat) (l : List UInt8) (w : World) : Prop := Lib.IsBuilderF 119 5 B b (Lib.byteCells l) w
theorem writeRune_any (B b : Nat) (l : List UInt8) (r : Int) (hr0 : -2147483648 ≤ r) (hr1 : r ≤ 2147483647) (w : World) (h : Bld B b l w) (hlen : l.length ≤ 100000) (hBw : B ≤ w.heap.size) :
    Calls Tryd.prog 63 #[.pointer (some ⟨b, 0, none⟩), .int .i32 r] w fun e w' => e = .returned (.tuple #[.int .i64 (Lib.runeCells r).length, .nilIface]) ∧ Bld B b (l ++ Lib.encodeRune r) w' ∧ RowKit.Below B w w' := by
  refine (Any.Builder_WriteRune_k laysWr extraWr B b (Lib.byteCells l) r hr0 hr1 w h (by rw [Lib.byteCells_length]; omega) hBw).mono ?_
  rintro e w' ⟨h1, h2, h3, _⟩
  refine ⟨h1, ?_, h3⟩
  unfold Bld
  rw [Lib.byteCells_append, Lib.byteCells_encodeRune]
  exact .inr h2
theorem string_any (B b : Nat) (l : List UInt8) (w : World) (h : Bld B b l w) (hBw : B ≤ w.heap.size) :
    Calls Tryd.prog 64 #[.pointer (some ⟨b, 0, none⟩)] w fun e w' => e = .returned (.string ⟨l.toArray⟩) ∧ Bld B b l w' ∧ RowKit.Below B w w' := by
  refine (Any.Builder_String_any_k Tryd.laysString extraStr B b l w h hBw).mono ?_
  rintro e w' ⟨h1, h2, h3, _⟩
  exact ⟨h1, h2, h3⟩
theorem runeCount_any (s : ByteArray) (w : World) (hs : s.size < 9223372036854775807) : Calls Tryd.prog 44 #[.string s] w fun e w' => e = .returned (.int .i64 (Lib.runeCount s)) ∧ Ext w w' := by
  refine (Any.utf8_RuneCountInString Tryd.laysCount s w hs).mono ?_
  rintro e w' ⟨h1, pos, rfl⟩
  exact ⟨h1, (Ext.refl _).alloc _⟩
theorem validStr_any (s : ByteArray) (w : World) (hs : s.size ≤ 9223372036854775807) (hT : Tabs w) : Calls Tryd.prog 42 #[.string s] w fun e w' => e = .returned (.bool (Lib.validD s.data.toList)) ∧ Ext w w' :=
  Any.utf8_ValidString Tryd.laysValid s w hs hT

end Go.Proofs.YthpminlfbjedpaaDoor

namespace Go.Proofs.YthpminlfbjedpaaDoor
open Go.ChangeShapes Go.WideShapes Go.ChangeAt Go.RowKit Go.Sort
set_option linter.unusedVariables false
attribute [local go_sem] World.cell?_alloc_some

theorem text_nil (l : List UInt8) (W : World) : (binOp .eql 9 (.string ⟨l.toArray⟩) (.string ⟨#[]⟩)).run Tryd.prog W = .ok (.bool l.isEmpty) W := by
  simp [go_sem]
attribute [local go_sem ↓] text_nil

/-- MARK: from here on by genmay.py -/
def IdBlk (W : World) (q : Nat) : Prop := ∃ u v, W.heap[q]? = some (.cells #[Vu u, Vu v] 47 (0, 0))
theorem IdBlk.new (W : World) : IdBlk (W.alloc (.cells #[Vu 0, Vu 0] 47)) W.heap.size := ⟨0, 0, heap_alloc_new W _⟩
/-- how the world goes on in May's statement -/
def MRel (B : Nat) (W W' : World) : Prop := Below B W W' ∧ ∀ q, IdBlk W q → IdBlk W' q
theorem MRel.refl (B : Nat) (W : World) : MRel B W W := ⟨Below.refl _ _, fun _ h => h⟩
theorem MRel.trans {B : Nat} (a b c : World) (h : MRel B a b) (k : MRel B b c) : MRel B a c := ⟨h.1.trans k.1, fun q hq => k.2 q (h.2 q hq)⟩
theorem MRel.ext {B : Nat} {w W W' : World} (hx : Below B w W ∧ ∀ q, IdBlk w q → IdBlk W q) (h : Ext W W') (hB : B ≤ w.heap.size := by assumption) : MRel B W W' := by
  refine ⟨Below.mono h (Nat.le_trans hB hx.1.size), fun q hq => ?_⟩
  obtain ⟨u, v, hq⟩ := hq
  exact ⟨u, v, by rw [RowKit.Below.block h q (Array.getElem?_eq_some_iff.1 hq).1]; exact hq⟩
theorem MRel.alloc {B : Nat} {w W : World} (hx : Below B w W ∧ ∀ q, IdBlk w q → IdBlk W q) (o : Obj) (hB : B ≤ w.heap.size := by assumption) : MRel B W (W.alloc o) := MRel.ext hx ((Ext.refl W).alloc o) hB
theorem MRel.store {B : Nat} {w W : World} {q : Nat} {x y : Int} (hx : Below B w W ∧ ∀ q, IdBlk w q → IdBlk W q) (hq : B ≤ q) : MRel B W ((W.setCell ⟨q, 0, none⟩ (Vu x)).setCell ⟨q, 1, none⟩ (Vu y)) := by
  refine ⟨((Below.refl _ _).setCell hq _).setCell hq _, fun q' hb => ?_⟩
  obtain ⟨u, v, hb⟩ := hb
  by_cases he : q' = q
  · subst he
    exact ⟨x, y, heap_setCell_same _ _ 1 _ _ _ (heap_setCell_same _ _ 0 _ _ _ hb)⟩
  · exact ⟨u, v, by rw [heap_setCell_other _ _ _ _ he, heap_setCell_other _ _ _ _ he]; exact hb⟩
/-- what the slots hold -/
def mayTab (B pa n : Nat) (r : Rn) (x y : Int) (E : Value) : SoftTab := [(15, fun z9 W => z9 = .pointer (some ⟨pa, 0, none⟩)),
  (16, fun z9 W => z9 = idv r.c r.k),
  (17, fun z9 W => z9 = .pointer (some ⟨pa, 6, none⟩)),
  (18, fun z9 W => z9 = .string ⟨r.t.toArray⟩),
  (19, fun z9 W => z9 = Vi (n : Int)),
  (20, fun z9 W => z9 = Vi ((n : Int) - 1)),
  (21, fun z9 W => z9 = .tuple #[idv x y, E]),
  (14, fun z9 W => z9 = .tuple #[idv x y, E]),
  (22, fun z9 W => z9 = idv x y),
  (23, fun z9 W => z9 = E),
  (3, fun z9 W => ∃ q, z9 = .pointer (some ⟨q, 0, none⟩) ∧ B ≤ q ∧ IdBlk W q),
  (5, fun z9 W => True)]
theorem mayTab_mono (B pa n : Nat) (r : Rn) (x y : Int) (E : Value) : SoftMonoR (MRel B) (mayTab B pa n r x y E) := by
  intro p hp v W W' h hx
  simp only [mayTab, List.mem_cons, List.not_mem_nil, or_false] at hp
  rcases hp with rfl | rfl | rfl | rfl | rfl | rfl | rfl | rfl | rfl | rfl | rfl | rfl
  all_goals first
    | exact h
    | (obtain ⟨q, h1, h2, h3⟩ := h
       exact ⟨q, h1, h2, hx.2 q h3⟩)

set_option maxRecDepth 100000 in
set_option maxHeartbeats 4000000 in
theorem may_any (r : Rn) (w : World) (hT : Tabs w) (hk0 : 0 ≤ r.k) (hk1 : r.k ≤ 4294967295) (ht : r.t.length ≤ 200000) :
    Calls Tryd.prog 31 #[rnv r] w fun e w' => e = .returned (.bool (mayN r)) ∧ Ext w w' := by
  have hl := runesD_len r.t
  have hsz : (⟨r.t.toArray⟩ : ByteArray).size = r.t.length := by show r.t.toArray.size = _; simp
  have hv := Lib.hid (fun W (hx : Ext w W) => validStr_any ⟨r.t.toArray⟩ W (by rw [hsz]; omega) (hT.ext hx))
  have hcnt := Lib.hid (fun W => runeCount_any ⟨r.t.toArray⟩ W (by rw [hsz]; omega))
  rw [runeCount_D] at hcnt
  replace hcnt : Hid (∀ (W : World), Calls Tryd.prog 44 #[.string ⟨r.t.toArray⟩] W fun e w' => e = .returned (.int .i64 ((runesD r.t).length : Int)) ∧ Ext W w') := hcnt
  replace hv : Hid (∀ (W : World), Ext w W → Calls Tryd.prog 42 #[.string ⟨r.t.toArray⟩] W fun e w' => e = .returned (.bool (Lib.validD r.t)) ∧ Ext W w') := hv
  clear hsz
  cases he : r.t.isEmpty with
  | true =>
    have hm := Lib.hid (may_false (r := r) (.inr (.inl (by rw [List.isEmpty_iff.1 he, runesD_nil]; rfl))))
    clear hv hcnt
    go_enter Tryd.func31, Tryd.ntmps31
    go_wp2
    go_ret
    exact ⟨ret_bool (a := false) hm.out.symm, (Ext.refl _).alloc _⟩
  | false =>
    have hpos : 0 < (runesD r.t).length := by
      have hne : r.t ≠ [] := by intro e; rw [e] at he; simp at he
      rw [runesD_step _ hne]
      simp
    cases hva : Lib.validD r.t with
    | false =>
      have hm := Lib.hid (may_false (r := r) (.inl hva))
      rw [hva] at hv
      clear hcnt hva
      go_enter Tryd.func31, Tryd.ntmps31
      go_wp2_with fail
      refine (hv.out _ ((Ext.refl _).alloc _)).mono ?_
      rintro e w1 ⟨rfl, x1⟩
      go_wp2
      go_ret
      exact ⟨ret_bool (a := false) hm.out.symm, ((Ext.refl _).alloc _).trans x1⟩
    | true =>
      rw [hva] at hv
      have hn : (runesD r.t).length ≤ 200000 := by omega
      obtain ⟨n, hcn⟩ : ∃ n, (runesD r.t).length = n := ⟨_, rfl⟩
      rw [hcn] at hcnt hpos hn
      obtain ⟨x, y, E, be, hE, haft, hm⟩ : ∃ (x y : Int) (E : Value) (be : Bool), ((E = .nilIface ∧ be = true) ∨ (∃ z : Int, E = .iface 58 (.int .i64 z) ∧ be = false)) ∧
          Hid (∀ W, Calls Tryd.prog 43 #[idv r.c r.k, Vi ((n : Int) - 1), Vu 4294967294] W fun e w' => e = .returned (.tuple #[idv x y, E]) ∧ Ext W w') ∧ Hid (mayN r = be) := by
        by_cases hb : r.c = 0 ∨ 4294967294 < r.k + (n : Int) - 1
        · obtain ⟨z, hz, ha⟩ : ∃ z : Int, z ≠ 0 ∧ aftId r.c r.k ((n : Int) - 1) 4294967294 = (0, 0, z) := by
            unfold aftId
            by_cases h0 : r.c = 0
            · exact ⟨1, by omega, by rw [if_pos (by omega)]⟩
            · exact ⟨4, by omega, by rw [if_neg (by omega), if_pos (by omega)]⟩
          exact ⟨0, 0, _, false, .inr ⟨z, rfl, rfl⟩, Lib.hid (fun W => after_err W ha hz hk0 hk1 (by omega) (by omega) (by omega) (by omega)), Lib.hid (may_false (by rw [hcn]; rcases hb with h | h <;> simp [h]))⟩
        · have ha : aftId r.c r.k ((n : Int) - 1) 4294967294 = (r.c, r.k + ((n : Int) - 1), 0) := by
            unfold aftId
            rw [if_neg (by omega), if_neg (by omega)]
          exact ⟨_, _, _, true, .inl ⟨rfl, rfl⟩, Lib.hid (fun W => after_nil W ha hk0 hk1 (by omega) (by omega) (by omega) (by omega)), Lib.hid (may_true hva (by rw [hcn]; omega) (by omega) (by rw [hcn]; omega))⟩
      have hsub : IntKind.i64.wrap ((n : Int) - 1) = (n : Int) - 1 := IntWalk.i64_in _ (by omega)
      clear hva hcn hl
      go_enter Tryd.func31, Tryd.ntmps31
      go_wp2_with fail
      refine (hv.out _ ((Ext.refl _).alloc _)).mono ?_
      rintro e w1 ⟨rfl, x1⟩
      have a0 := x1.keep (p := ⟨w.heap.size, 0, none⟩) (v := Vu r.c) (by simp [go_sem])
      have a1 := x1.keep (p := ⟨w.heap.size, 1, none⟩) (v := Vu r.k) (by simp [go_sem])
      have a6 := x1.keep (p := ⟨w.heap.size, 6, none⟩) (v := .string ⟨r.t.toArray⟩) (by simp [go_sem])
      replace x1 := ((Ext.refl w).alloc _).trans x1
      have hpa : w.heap.size < w1.heap.size := World.block_lt_of_cell? _ _ a0
      generalize w.heap.size = pa at *
      obtain ⟨B, hBd⟩ : ∃ B, w1.heap.size = B := ⟨_, rfl⟩
      have hB : B ≤ w1.heap.size := by omega
      have hK : ∀ W, MRel B w1 W → ∀ {j : Nat} {v : Value}, w1.cell? ⟨pa, j, none⟩ = some v → W.cell? ⟨pa, j, none⟩ = some v := fun W hW j v h => by rw [RowKit.Below.cell (p := ⟨pa, j, none⟩) hW.1 (by show pa < B; omega)]; exact h
      go_wp2_with fail
      refine wp_soft_frame (MRel B) 12 (mayTab B pa n r x y E) (by kernel_rfl) (by kernel_rfl) MRel.trans ⟨(Below.refl _ _).drew, fun _ h => h⟩ rfl (by show List.Nodup [15, 16, 17, 18, 19, 20, 21, 14, 22, 23, 3, 5]; decide) (by show ∀ d ∈ [15, 16, 17, 18, 19, 20, 21, 14, 22, 23, 3, 5], d < 26; decide) (mayTab_mono B pa n r x y E) ?_ ⟨?_, ?_, ?_, ?_, ?_, ?_, ?_, ?_, ?_, ?_, ?_, ?_, trivial⟩
      · intro W vs hT hR
        match vs, hT with
        | [v0, v1, v2, v3, v4, v5, v6, v7, v8, v9, v10, v11], ⟨e0, e1, e2, e3, e4, e5, e6, e7, e8, e9, e10, e11, _⟩ =>
          simp only [mayTab, List.map_cons, List.map_nil, List.zip_cons_cons, List.zip_nil_left, putAll, List.setIfInBounds_toArray, List.set_cons_zero, List.set_cons_succ, List.drop_succ_cons, List.drop_zero]
          simp only at e0 e1 e2 e3 e4 e5 e6 e7 e8 e9 e10 e11
          obtain ⟨q, e10, _, _⟩ := e10
          rw [e0, e1, e2, e3, e4, e5, e6, e7, e8, e9, e10]
          have hE2 : Ext w W := x1.trans (by have h1 := hR.1; rw [← hBd] at h1; exact h1)
          clear e0 e1 e2 e3 e4 e5 e6 e7 e8 e9 e10 e11 v0 v1 v2 v3 v4 v5 v6 v7 v8 v9 v10 hT a0 a1 a6 hK hR x1 hsub hpos hn haft
          rcases hE with ⟨rfl, rfl⟩ | ⟨z, rfl, rfl⟩
          · go_wp2
            go_ret
            exact ⟨ret_bool (a := true) hm.out.symm, hE2⟩
          · go_wp2
            go_ret
            exact ⟨ret_bool (a := false) hm.out.symm, hE2⟩
      · refine softR_val 15 _ (by kernel_rfl) rfl rfl ?_
        intro a W hx hout hdep
        have ev1 : a.tmps[1]?.getD undef = .pointer (some ⟨pa, 0, none⟩) := by rw [← Array.getD_eq_getD_getElem?]; exact hout 1 (by show 1 ∉ [15, 16, 17, 18, 19, 20, 21, 14, 22, 23, 3, 5]; decide)
        refine ⟨rfl, .pointer (some ⟨pa, 0, none⟩), W, ?_, rfl, MRel.refl _ _⟩
        simp [ev1, execOp, go_sem]
      · refine softR_val 16 _ (by kernel_rfl) rfl rfl ?_
        intro a W hx hout hdep
        have ev15 : a.tmps[15]?.getD undef = .pointer (some ⟨pa, 0, none⟩) := by rw [← Array.getD_eq_getD_getElem?]; exact (hdep ⟨0, .data⟩ (by simp) rfl 15 _ rfl).1
        have q0 := hK W hx a0
        have q1 := hK W hx a1
        refine ⟨rfl, idv r.c r.k, W, ?_, rfl, MRel.refl _ _⟩
        simp [ev15, q0, q1, execOp, go_sem]
      · refine softR_val 17 _ (by kernel_rfl) rfl rfl ?_
        intro a W hx hout hdep
        have ev1 : a.tmps[1]?.getD undef = .pointer (some ⟨pa, 0, none⟩) := by rw [← Array.getD_eq_getD_getElem?]; exact hout 1 (by show 1 ∉ [15, 16, 17, 18, 19, 20, 21, 14, 22, 23, 3, 5]; decide)
        refine ⟨rfl, .pointer (some ⟨pa, 6, none⟩), W, ?_, rfl, MRel.refl _ _⟩
        simp [ev1, execOp, go_sem]
      · refine softR_val 18 _ (by kernel_rfl) rfl rfl ?_
        intro a W hx hout hdep
        have ev17 : a.tmps[17]?.getD undef = .pointer (some ⟨pa, 6, none⟩) := by rw [← Array.getD_eq_getD_getElem?]; exact (hdep ⟨2, .data⟩ (by simp) rfl 17 _ rfl).1
        have q6 := hK W hx a6
        refine ⟨rfl, .string ⟨r.t.toArray⟩, W, ?_, rfl, MRel.refl _ _⟩
        simp [ev17, q6, execOp, go_sem]
      · refine softR_call 19 _ (by kernel_rfl) rfl rfl ?_
        intro a W hx hout hdep
        have ev18 : a.tmps[18]?.getD undef = .string ⟨r.t.toArray⟩ := by rw [← Array.getD_eq_getD_getElem?]; exact (hdep ⟨3, .data⟩ (by simp) rfl 18 _ rfl).1
        refine ⟨rfl, 44, #[.string ⟨r.t.toArray⟩], ?_, ?_⟩
        · simp [ev18, execOp, go_sem]
        · exact (hcnt.out W).mono (by rintro e W1 ⟨rfl, h⟩; exact ⟨_, rfl, rfl, MRel.ext hx h⟩)
      · refine softR_val 20 _ (by kernel_rfl) rfl rfl ?_
        intro a W hx hout hdep
        have ev19 : a.tmps[19]?.getD undef = Vi (n : Int) := by rw [← Array.getD_eq_getD_getElem?]; exact (hdep ⟨4, .data⟩ (by simp) rfl 19 _ rfl).1
        refine ⟨rfl, Vi ((n : Int) - 1), W, ?_, rfl, MRel.refl _ _⟩
        simp [ev19, hsub, execOp, go_sem]
      · refine softR_call 21 _ (by kernel_rfl) rfl rfl ?_
        intro a W hx hout hdep
        have ev16 : a.tmps[16]?.getD undef = idv r.c r.k := by rw [← Array.getD_eq_getD_getElem?]; exact (hdep ⟨1, .data⟩ (by simp) rfl 16 _ rfl).1
        have ev20 : a.tmps[20]?.getD undef = Vi ((n : Int) - 1) := by rw [← Array.getD_eq_getD_getElem?]; exact (hdep ⟨5, .data⟩ (by simp) rfl 20 _ rfl).1
        refine ⟨rfl, 43, #[idv r.c r.k, Vi ((n : Int) - 1), Vu 4294967294], ?_, ?_⟩
        · simp [ev16, ev20, execOp, go_sem]
        · exact (haft.out W).mono (by rintro e W1 ⟨rfl, h⟩; exact ⟨_, rfl, rfl, MRel.ext hx h⟩)
      · refine softR_val 14 _ (by kernel_rfl) rfl rfl ?_
        intro a W hx hout hdep
        have ev21 : a.tmps[21]?.getD undef = .tuple #[idv x y, E] := by rw [← Array.getD_eq_getD_getElem?]; exact (hdep ⟨6, .data⟩ (by simp) rfl 21 _ rfl).1
        refine ⟨rfl, .tuple #[idv x y, E], W, ?_, rfl, MRel.refl _ _⟩
        simp [ev21, execOp, go_sem]
      · refine softR_val 22 _ (by kernel_rfl) rfl rfl ?_
        intro a W hx hout hdep
        have ev14 : a.tmps[14]?.getD undef = .tuple #[idv x y, E] := by rw [← Array.getD_eq_getD_getElem?]; exact (hdep ⟨7, .data⟩ (by simp) rfl 14 _ rfl).1
        refine ⟨rfl, idv x y, W, ?_, rfl, MRel.refl _ _⟩
        simp [ev14, execOp, go_sem]
      · refine softR_val 23 _ (by kernel_rfl) rfl rfl ?_
        intro a W hx hout hdep
        have ev14 : a.tmps[14]?.getD undef = .tuple #[idv x y, E] := by rw [← Array.getD_eq_getD_getElem?]; exact (hdep ⟨7, .data⟩ (by simp) rfl 14 _ rfl).1
        refine ⟨rfl, E, W, ?_, rfl, MRel.refl _ _⟩
        simp [ev14, execOp, go_sem]
      · refine softR_val 3 _ (by kernel_rfl) rfl rfl ?_
        intro a W hx hout hdep
        refine ⟨rfl, .pointer (some ⟨W.heap.size, 0, none⟩), W.alloc (.cells #[Vu 0, Vu 0] 47), ?_, ⟨_, rfl, Nat.le_trans hB hx.1.size, IdBlk.new W⟩, MRel.alloc hx _⟩
        simp [execOp, go_sem]
      · refine softR_none 5 (by kernel_rfl) rfl rfl ?_
        intro a W hx hout hdep
        have tl3 := (hdep ⟨10, .data⟩ (by simp) rfl 3 _ rfl).1
        have ev22 : a.tmps[22]?.getD undef = idv x y := by rw [← Array.getD_eq_getD_getElem?]; exact (hdep ⟨8, .data⟩ (by simp) rfl 22 _ rfl).1
        obtain ⟨q, eq, hq, hb⟩ := tl3
        obtain ⟨u, v, hb⟩ := hb
        have f0 := frozen_of_row W q 0 _ _ hb
        have f1 := frozen_of_row W q 1 _ _ hb
        have g0 := cell_of_row W q 0 _ _ _ hb
        have g1 := cell_of_row W q 1 _ _ _ hb
        rw [Array.getD_eq_getD_getElem?] at eq
        refine ⟨rfl, (W.setCell ⟨q, 0, none⟩ (Vu x)).setCell ⟨q, 1, none⟩ (Vu y), ?_, MRel.store hx hq⟩
        simp [eq, f0, f1, g0, g1, ev22, execOp, go_sem]

end Go.Proofs.YthpminlfbjedpaaDoor

namespace Go.Proofs.YthpminlfbjedpaaDoor
open Go.ChangeShapes Go.WideShapes Go.ChangeAt Go.RowKit Go.Sort
set_option linter.unusedVariables false
attribute [local go_sem] World.cell?_alloc_some

theorem Bld.alloc {B b : Nat} {l : List UInt8} {w : World} (h : Bld B b l w) (o : Obj) : Bld B b l (w.alloc o) := Lib.IsBuilderF.alloc h o
theorem Bld.new (w : World) : Bld w.heap.size w.heap.size [] (w.alloc (.cells #[.pointer none, .slice none 0 0] 119)) := Lib.IsBuilderF.of (Lib.fresh_isBuilder 119 5 w)
/-- how the world goes on in join's last statement -/
def JRel (p : Nat) (L : List UInt8) (W W' : World) : Prop := Below p W W' ∧ (Bld p p L W → Bld p p L W')
theorem JRel.refl (p : Nat) (L : List UInt8) (W : World) : JRel p L W W := ⟨Below.refl _ _, id⟩
theorem JRel.trans {p : Nat} {L : List UInt8} (a b c : World) (h : JRel p L a b) (k : JRel p L b c) : JRel p L a c := ⟨h.1.trans k.1, fun x => k.2 (h.2 x)⟩
/-- what the slots of join's last statement hold -/
def joinTab (b o n cap : Nat) (x : It) (L : List UInt8) : SoftTab := [(16, fun z9 W => z9 = .slice (some ⟨b, o, none⟩) n cap),
  (17, fun z9 W => z9 = .pointer (some ⟨b, o, none⟩)),
  (18, fun z9 W => z9 = .pointer (some ⟨b, o, none⟩)),
  (19, fun z9 W => z9 = idv x.c x.k),
  (20, fun z9 W => z9 = .slice (some ⟨b, o, none⟩) n cap),
  (21, fun z9 W => z9 = .pointer (some ⟨b, o, none⟩)),
  (22, fun z9 W => z9 = .pointer (some ⟨b, o + 2, none⟩)),
  (23, fun z9 W => z9 = idv x.lc x.lk),
  (24, fun z9 W => z9 = .slice (some ⟨b, o, none⟩) n cap),
  (25, fun z9 W => z9 = .pointer (some ⟨b, o, none⟩)),
  (26, fun z9 W => z9 = .pointer (some ⟨b, o + 4, none⟩)),
  (27, fun z9 W => z9 = idv x.rc x.rk),
  (28, fun z9 W => z9 = .string ⟨L.toArray⟩),
  (29, fun z9 W => z9 = rnv ⟨x.c, x.k, x.lc, x.lk, x.rc, x.rk, L⟩)]
theorem joinTab_mono (b o n cap : Nat) (x : It) (L : List UInt8) (Rel : World → World → Prop) : SoftMonoR Rel (joinTab b o n cap x L) := by
  intro p hp v W W' h hx
  simp only [joinTab, List.mem_cons, List.not_mem_nil, or_false] at hp
  rcases hp with rfl | rfl | rfl | rfl | rfl | rfl | rfl | rfl | rfl | rfl | rfl | rfl | rfl | rfl
  all_goals exact h

theorem enc_take {l : List It} {k : Nat} {x : It} (h : l[k]? = some x) : encAll (l.take (k + 1)) = encAll (l.take k) ++ Lib.encodeRune x.ch := by
  rw [List.take_add_one, h, encAll_append]
  simp [encAll]
theorem join_head {l : List It} {x : It} (h : l[0]? = some x) : joinR l = ⟨x.c, x.k, x.lc, x.lk, x.rc, x.rk, encAll l⟩ := by
  cases l with
  | nil => cases h
  | cons y l =>
    obtain rfl : y = x := by simpa using h
    rfl

set_option maxRecDepth 100000 in
set_option maxHeartbeats 4000000 in
theorem join_any (A : Option Addr) (n cap : Nat) (l : List It) (w : World) (hv : ItS w A l) (hn : l.length = n) (h0 : 0 < n) (hw : wfIs l) (hb : n ≤ 10000) :
    Calls Tryd.prog 59 #[.slice A n cap] w fun e w' => e = .returned (rnv (joinR l)) ∧ Ext w w' := by
  replace hn := Lib.hid hn
  replace hv := Lib.hid hv
  replace hw := Lib.hid hw
  go_enter Tryd.func59, Tryd.ntmps59
  go_wp2
  have x0 : Ext w (w.alloc (.cells #[.int .u32 0, .int .u32 0, .int .u32 0, .int .u32 0, .int .u32 0, .int .u32 0, .string ⟨#[]⟩] 49)) := (Ext.refl _).alloc _
  have hz : (w.alloc (.cells #[.int .u32 0, .int .u32 0, .int .u32 0, .int .u32 0, .int .u32 0, .int .u32 0, .string ⟨#[]⟩] 49)).heap[w.heap.size]? = some (.cells #[.int .u32 0, .int .u32 0, .int .u32 0, .int .u32 0, .int .u32 0, .int .u32 0, .string ⟨#[]⟩] 49 (0, 0)) := heap_alloc_new w _
  have hp1 : (w.alloc (.cells #[.int .u32 0, .int .u32 0, .int .u32 0, .int .u32 0, .int .u32 0, .int .u32 0, .string ⟨#[]⟩] 49)).heap.size = w.heap.size + 1 := by simp
  generalize w.alloc (.cells #[.int .u32 0, .int .u32 0, .int .u32 0, .int .u32 0, .int .u32 0, .int .u32 0, .string ⟨#[]⟩] 49) = W0 at *
  rw [← hp1]
  replace hp1 := Lib.hid hp1
  replace hz := Lib.hid hz
  go_loopw [8] (fun i W => ∃ (k : Nat), k ≤ n ∧ i = Vi k ∧ Hid (Bld W0.heap.size W0.heap.size (encAll (l.take k)) W) ∧ Hid (Below W0.heap.size W0 W)) (fun i _ => n - (intOf i).toNat)
  case atStart => exact ⟨0, Nat.zero_le _, rfl, Lib.hid (Bld.new W0), Lib.hid ((Below.refl _ _).alloc (Nat.le_refl _) _)⟩
  case round =>
    obtain ⟨k, hk, rfl, hB, hx⟩ := hrel
    have hpw : W0.heap.size ≤ wr.heap.size := hx.out.size
    by_cases hlt : k < n
    · obtain ⟨b, o, x, rfl, hp, d⟩ := hv.out.at (k := k) (by rw [hn.out]; exact hlt)
      have hwf := hw.out.at hp
      obtain ⟨c0, c1, c2, c3, c4, c5, c6⟩ := (d.ext x0).ext (show Ext W0 wr from hx.out)
      have he := Lib.hid (enc_take hp)
      have hl4 := encAll_len (l.take k)
      rw [List.length_take] at hl4
      have hcall := Lib.hid (fun (o : Obj) => writeRune_any W0.heap.size W0.heap.size (encAll (l.take k)) x.ch (by have := hwf; unfold wfI at this; omega) (by have := hwf; unfold wfI at this; omega) (wr.alloc o) (hB.out.alloc o) (by omega) (by simp; omega))
      clear hp d hwf hl4
      go_wp2_with fail
      refine (hcall.out _).mono ?_
      rintro e w1 ⟨rfl, h2, h3⟩
      replace h2 := Lib.hid h2
      have hx1 := Lib.hid (Below.trans (Below.alloc hx.out hpw _) h3)
      clear h3
      go_wp2
      go_roundw
      case rel => exact ⟨k + 1, by omega, by go_num, Lib.hid (by rw [he.out]; exact h2.out), hx1⟩
      case measure => simp [intOf]; omega
    · obtain rfl : k = n := by omega
      obtain ⟨b, o, x, rfl, hp, d⟩ := hv.out.at (k := 0) (by rw [hn.out]; exact h0)
      have hj := Lib.hid (join_head hp)
      have hblt : b < W0.heap.size := by have := World.block_lt_of_cell? _ _ (d.ext x0).c0; exact this
      have hc := (d.ext x0).ext (show Ext W0 wr from hx.out)
      rw [show l.take k = l from List.take_of_length_le (by rw [hn.out]; exact Nat.le_refl _)] at hB
      simp only [Nat.zero_mul, Nat.add_zero] at hc
      clear hp d
      generalize hLd : encAll l = L at *
      have hK : ∀ W, Below W0.heap.size wr W → ∀ {j : Nat} {v : Value}, wr.cell? ⟨b, j, none⟩ = some v → W.cell? ⟨b, j, none⟩ = some v := fun W hW j v h => by rw [RowKit.Below.cell (p := ⟨b, j, none⟩) hW hblt]; exact h
      have hlen : ¬ (k = 0) := by omega
      replace hB := hB.out
      have hzr : wr.heap[w.heap.size]? = some (.cells #[.int .u32 0, .int .u32 0, .int .u32 0, .int .u32 0, .int .u32 0, .int .u32 0, .string ⟨#[]⟩] 49 (0, 0)) := by rw [RowKit.Below.block hx.out w.heap.size (by rw [hp1.out]; omega)]; exact hz.out
      generalize hpd : W0.heap.size = p at *
      go_wp2_with fail
      refine wp_soft_frame (JRel p L) 14 (joinTab b o k cap x L) (by kernel_rfl) (by kernel_rfl) JRel.trans ⟨(Below.refl _ _).drew, id⟩ rfl (by show List.Nodup [16, 17, 18, 19, 20, 21, 22, 23, 24, 25, 26, 27, 28, 29]; decide) (by show ∀ d ∈ [16, 17, 18, 19, 20, 21, 22, 23, 24, 25, 26, 27, 28, 29], d < 30; decide) (joinTab_mono b o k cap x L _) ?_ ⟨?_, ?_, ?_, ?_, ?_, ?_, ?_, ?_, ?_, ?_, ?_, ?_, ?_, ?_, trivial⟩
      · intro W vs hT hR
        match vs, hT with
        | [v0, v1, v2, v3, v4, v5, v6, v7, v8, v9, v10, v11, v12, v13], ⟨e0, e1, e2, e3, e4, e5, e6, e7, e8, e9, e10, e11, e12, e13, _⟩ =>
          simp only [joinTab, List.map_cons, List.map_nil, List.zip_cons_cons, List.zip_nil_left, putAll, List.setIfInBounds_toArray, List.set_cons_zero, List.set_cons_succ, List.drop_succ_cons, List.drop_zero]
          simp only at e0 e1 e2 e3 e4 e5 e6 e7 e8 e9 e10 e11 e12 e13
          rw [e0, e1, e2, e3, e4, e5, e6, e7, e8, e9, e10, e11, e12, e13]
          clear e0 e1 e2 e3 e4 e5 e6 e7 e8 e9 e10 e11 e12 e13 v0 v1 v2 v3 v4 v5 v6 v7 v8 v9 v10 v11 v12 v13
          have hzW : W.heap[w.heap.size]? = some (.cells #[.int .u32 0, .int .u32 0, .int .u32 0, .int .u32 0, .int .u32 0, .int .u32 0, .string ⟨#[]⟩] 49 (0, 0)) := by rw [RowKit.Below.block hR.1 w.heap.size (by have := hp1.out; omega)]; exact hzr
          have hE : Ext w W := x0.trans (by have h1 := Below.trans hx.out hR.1; rw [← hpd] at h1; exact h1)
          have hpr : w.heap.size ≤ w.heap.size := Nat.le_refl _
          have z0 := cell_of_row W w.heap.size 0 _ _ _ hzW
          have f0 := frozen_of_row W w.heap.size 0 _ _ hzW
          have z1 := cell_of_row W w.heap.size 1 _ _ _ hzW
          have f1 := frozen_of_row W w.heap.size 1 _ _ hzW
          have z2 := cell_of_row W w.heap.size 2 _ _ _ hzW
          have f2 := frozen_of_row W w.heap.size 2 _ _ hzW
          have z3 := cell_of_row W w.heap.size 3 _ _ _ hzW
          have f3 := frozen_of_row W w.heap.size 3 _ _ hzW
          have z4 := cell_of_row W w.heap.size 4 _ _ _ hzW
          have f4 := frozen_of_row W w.heap.size 4 _ _ hzW
          have z5 := cell_of_row W w.heap.size 5 _ _ _ hzW
          have f5 := frozen_of_row W w.heap.size 5 _ _ hzW
          have z6 := cell_of_row W w.heap.size 6 _ _ _ hzW
          have f6 := frozen_of_row W w.heap.size 6 _ _ hzW
          clear hzW hzr hB hK hc hx hR
          generalize hq : w.heap.size = q at *
          go_wp2
          exact bodyPost_ret (v := rnv ⟨x.c, x.k, x.lc, x.lk, x.rc, x.rk, L⟩) (by simp [results, Tryd.results59, go_sem, z0, z1, z2, z3, z4, z5, z6]) rfl ⟨by rw [hj.out], ((((((hE.setCell (by rw [hq]; exact Nat.le_refl _) _).setCell (by rw [hq]; exact Nat.le_refl _) _).setCell (by rw [hq]; exact Nat.le_refl _) _).setCell (by rw [hq]; exact Nat.le_refl _) _).setCell (by rw [hq]; exact Nat.le_refl _) _).setCell (by rw [hq]; exact Nat.le_refl _) _).setCell (by rw [hq]; exact Nat.le_refl _) _⟩
      · refine softR_val 16 _ (by kernel_rfl) rfl rfl ?_
        intro a W hx hout hdep
        have ev0 : a.tmps[0]?.getD undef = .slice (some ⟨b, o, none⟩) k cap := by rw [← Array.getD_eq_getD_getElem?]; exact hout 0 (by show 0 ∉ [16, 17, 18, 19, 20, 21, 22, 23, 24, 25, 26, 27, 28, 29]; decide)
        refine ⟨rfl, .slice (some ⟨b, o, none⟩) k cap, W, ?_, rfl, JRel.refl _ _ _⟩
        simp [ev0, execOp, go_sem]
      · refine softR_val 17 _ (by kernel_rfl) rfl rfl ?_
        intro a W hx hout hdep
        have ev16 : a.tmps[16]?.getD undef = .slice (some ⟨b, o, none⟩) k cap := by rw [← Array.getD_eq_getD_getElem?]; exact (hdep ⟨0, .data⟩ (by simp) rfl 16 _ rfl).1
        refine ⟨rfl, .pointer (some ⟨b, o, none⟩), W, ?_, rfl, JRel.refl _ _ _⟩
        simp [ev16, hlen, execOp, go_sem]
      · refine softR_val 18 _ (by kernel_rfl) rfl rfl ?_
        intro a W hx hout hdep
        have ev17 : a.tmps[17]?.getD undef = .pointer (some ⟨b, o, none⟩) := by rw [← Array.getD_eq_getD_getElem?]; exact (hdep ⟨1, .data⟩ (by simp) rfl 17 _ rfl).1
        refine ⟨rfl, .pointer (some ⟨b, o, none⟩), W, ?_, rfl, JRel.refl _ _ _⟩
        simp [ev17, execOp, go_sem]
      · refine softR_val 19 _ (by kernel_rfl) rfl rfl ?_
        intro a W hx hout hdep
        have ev18 : a.tmps[18]?.getD undef = .pointer (some ⟨b, o, none⟩) := by rw [← Array.getD_eq_getD_getElem?]; exact (hdep ⟨2, .data⟩ (by simp) rfl 18 _ rfl).1
        have q0 := hK W hx.1 hc.c0
        have q1 := hK W hx.1 hc.c1
        refine ⟨rfl, idv x.c x.k, W, ?_, rfl, JRel.refl _ _ _⟩
        simp [ev18, q0, q1, execOp, go_sem]
      · refine softR_val 20 _ (by kernel_rfl) rfl rfl ?_
        intro a W hx hout hdep
        have ev0 : a.tmps[0]?.getD undef = .slice (some ⟨b, o, none⟩) k cap := by rw [← Array.getD_eq_getD_getElem?]; exact hout 0 (by show 0 ∉ [16, 17, 18, 19, 20, 21, 22, 23, 24, 25, 26, 27, 28, 29]; decide)
        refine ⟨rfl, .slice (some ⟨b, o, none⟩) k cap, W, ?_, rfl, JRel.refl _ _ _⟩
        simp [ev0, execOp, go_sem]
      · refine softR_val 21 _ (by kernel_rfl) rfl rfl ?_
        intro a W hx hout hdep
        have ev20 : a.tmps[20]?.getD undef = .slice (some ⟨b, o, none⟩) k cap := by rw [← Array.getD_eq_getD_getElem?]; exact (hdep ⟨4, .data⟩ (by simp) rfl 20 _ rfl).1
        refine ⟨rfl, .pointer (some ⟨b, o, none⟩), W, ?_, rfl, JRel.refl _ _ _⟩
        simp [ev20, hlen, execOp, go_sem]
      · refine softR_val 22 _ (by kernel_rfl) rfl rfl ?_
        intro a W hx hout hdep
        have ev21 : a.tmps[21]?.getD undef = .pointer (some ⟨b, o, none⟩) := by rw [← Array.getD_eq_getD_getElem?]; exact (hdep ⟨5, .data⟩ (by simp) rfl 21 _ rfl).1
        refine ⟨rfl, .pointer (some ⟨b, o + 2, none⟩), W, ?_, rfl, JRel.refl _ _ _⟩
        simp [ev21, execOp, go_sem]
      · refine softR_val 23 _ (by kernel_rfl) rfl rfl ?_
        intro a W hx hout hdep
        have ev22 : a.tmps[22]?.getD undef = .pointer (some ⟨b, o + 2, none⟩) := by rw [← Array.getD_eq_getD_getElem?]; exact (hdep ⟨6, .data⟩ (by simp) rfl 22 _ rfl).1
        have q0 := hK W hx.1 hc.c2
        have q1 := hK W hx.1 hc.c3
        refine ⟨rfl, idv x.lc x.lk, W, ?_, rfl, JRel.refl _ _ _⟩
        simp [ev22, q0, q1, execOp, go_sem]
      · refine softR_val 24 _ (by kernel_rfl) rfl rfl ?_
        intro a W hx hout hdep
        have ev0 : a.tmps[0]?.getD undef = .slice (some ⟨b, o, none⟩) k cap := by rw [← Array.getD_eq_getD_getElem?]; exact hout 0 (by show 0 ∉ [16, 17, 18, 19, 20, 21, 22, 23, 24, 25, 26, 27, 28, 29]; decide)
        refine ⟨rfl, .slice (some ⟨b, o, none⟩) k cap, W, ?_, rfl, JRel.refl _ _ _⟩
        simp [ev0, execOp, go_sem]
      · refine softR_val 25 _ (by kernel_rfl) rfl rfl ?_
        intro a W hx hout hdep
        have ev24 : a.tmps[24]?.getD undef = .slice (some ⟨b, o, none⟩) k cap := by rw [← Array.getD_eq_getD_getElem?]; exact (hdep ⟨8, .data⟩ (by simp) rfl 24 _ rfl).1
        refine ⟨rfl, .pointer (some ⟨b, o, none⟩), W, ?_, rfl, JRel.refl _ _ _⟩
        simp [ev24, hlen, execOp, go_sem]
      · refine softR_val 26 _ (by kernel_rfl) rfl rfl ?_
        intro a W hx hout hdep
        have ev25 : a.tmps[25]?.getD undef = .pointer (some ⟨b, o, none⟩) := by rw [← Array.getD_eq_getD_getElem?]; exact (hdep ⟨9, .data⟩ (by simp) rfl 25 _ rfl).1
        refine ⟨rfl, .pointer (some ⟨b, o + 4, none⟩), W, ?_, rfl, JRel.refl _ _ _⟩
        simp [ev25, execOp, go_sem]
      · refine softR_val 27 _ (by kernel_rfl) rfl rfl ?_
        intro a W hx hout hdep
        have ev26 : a.tmps[26]?.getD undef = .pointer (some ⟨b, o + 4, none⟩) := by rw [← Array.getD_eq_getD_getElem?]; exact (hdep ⟨10, .data⟩ (by simp) rfl 26 _ rfl).1
        have q0 := hK W hx.1 hc.c4
        have q1 := hK W hx.1 hc.c5
        refine ⟨rfl, idv x.rc x.rk, W, ?_, rfl, JRel.refl _ _ _⟩
        simp [ev26, q0, q1, execOp, go_sem]
      · refine softR_call 28 _ (by kernel_rfl) rfl rfl ?_
        intro a W hx hout hdep
        have ev3 : a.tmps[3]?.getD undef = .pointer (some ⟨p, 0, none⟩) := by rw [← Array.getD_eq_getD_getElem?]; exact hout 3 (by show 3 ∉ [16, 17, 18, 19, 20, 21, 22, 23, 24, 25, 26, 27, 28, 29]; decide)
        refine ⟨rfl, 64, #[.pointer (some ⟨p, 0, none⟩)], ?_, ?_⟩
        · simp [ev3, execOp, go_sem]
        · exact (string_any p p L W (hx.2 hB) (Nat.le_trans hpw hx.1.size)).mono (by rintro e W1 ⟨h1, h2, h3⟩; exact ⟨_, h1, rfl, h3, fun _ => h2⟩)
      · refine softR_val 29 _ (by kernel_rfl) rfl rfl ?_
        intro a W hx hout hdep
        have ev19 : a.tmps[19]?.getD undef = idv x.c x.k := by rw [← Array.getD_eq_getD_getElem?]; exact (hdep ⟨3, .data⟩ (by simp) rfl 19 _ rfl).1
        have ev23 : a.tmps[23]?.getD undef = idv x.lc x.lk := by rw [← Array.getD_eq_getD_getElem?]; exact (hdep ⟨7, .data⟩ (by simp) rfl 23 _ rfl).1
        have ev27 : a.tmps[27]?.getD undef = idv x.rc x.rk := by rw [← Array.getD_eq_getD_getElem?]; exact (hdep ⟨11, .data⟩ (by simp) rfl 27 _ rfl).1
        have ev28 : a.tmps[28]?.getD undef = .string ⟨L.toArray⟩ := by rw [← Array.getD_eq_getD_getElem?]; exact (hdep ⟨12, .data⟩ (by simp) rfl 28 _ rfl).1
        refine ⟨rfl, rnv ⟨x.c, x.k, x.lc, x.lk, x.rc, x.rk, L⟩, W, ?_, rfl, JRel.refl _ _ _⟩
        simp [ev19, ev23, ev27, ev28, execOp, go_sem]

end Go.Proofs.YthpminlfbjedpaaDoor

namespace Go.Proofs.YthpminlfbjedpaaDoor
open Go.ChangeShapes Go.WideShapes Go.ChangeAt Go.RowKit Go.Sort
set_option linter.unusedVariables false
attribute [local go_sem] World.cell?_alloc_some

def sliceLen : Value → Nat
  | .slice _ n _ => n
  | _ => 0
theorem wfIs.drop {l : List It} (h : wfIs l) (k : Nat) : wfIs (l.drop k) := fun x hx => h x (List.mem_of_mem_drop hx)
theorem wfIs.take {l : List It} (h : wfIs l) (k : Nat) : wfIs (l.take k) := fun x hx => h x (List.mem_of_mem_take hx)

/-- what Of's loop keeps -/
def OfKeep (w : World) (N : Nat) (l : List It) (s0 s3 : Value) (W : World) : Prop :=
  ∃ (r : List It) (rs : List Rn) (A : Option Addr) (m c : Nat), s0 = .slice A m c ∧ Hid (r.length = m) ∧ m ≤ c ∧ Hid (ItS w A r) ∧ Hid (wfIs r) ∧ Hid (OwnR w W s3 rs) ∧ rs.length + m ≤ N ∧ Ext w W ∧ Hid (rs ++ runsOf r = runsOf l)

set_option maxRecDepth 100000 in
set_option maxHeartbeats 4000000 in
theorem of_any (A : Option Addr) (n cap : Nat) (l : List It) (w : World) (hv : ItS w A l) (hn : l.length = n) (hc : n ≤ cap) (hw : wfIs l) (hb : n ≤ 10000) :
    Calls Tryd.prog 47 #[.slice A n cap] w (RetR w (runsOf l)) := by
  go_enter Tryd.func47, Tryd.ntmps47
  go_wp2
  go_loopw [0, 3] (OfKeep w n l) (fun s0 _ _ => sliceLen s0)
  case atStart => exact ⟨l, [], A, n, cap, rfl, Lib.hid hn, hc, Lib.hid hv, Lib.hid hw, Lib.hid (OwnR.nil _ _), by simp, Ext.refl _, Lib.hid rfl⟩
  case round =>
    clear hv hn hc hw
    obtain ⟨r, rs, A, m, c, rfl, hm, hmc, hI, hwf, ho, hlen, hx, hrel⟩ := hrel
    by_cases h0 : 0 < m
    · have hne : r ≠ [] := by intro e; have := hm.out; rw [e] at this; simp at this; omega
      have ht1 := tog_pos hne
      have ht2 := tog_le r
      rw [hm.out] at ht2
      have hst := Lib.hid (of_step hne)
      have hc1 := Lib.hid (together_any A m c r wr (hI.out.ext hx) hm.out h0 hwf.out (by omega))
      have hc2 := Lib.hid (fun (W : World) (hX : Ext wr W) => join_any A (tog r) c (r.take (tog r)) W ((hI.out.ext (hx.trans hX)).take _) (by rw [List.length_take, hm.out]; omega) (by omega) (hwf.out.take _) (by omega))
      have hcut := Lib.hid (hI.out.cut hm.out hmc (k := tog r) (by omega))
      have hwd := Lib.hid (hwf.out.drop (tog r))
      have hdl := Lib.hid (show (r.drop (tog r)).length = m - tog r by rw [List.length_drop, hm.out])
      have hup := uptoI A m c (tog r) (by omega) ((tog r : Nat) : Int) rfl
      have hfr := fromI A m c (tog r) (by omega) ((tog r : Nat) : Int) rfl
      clear hne
      generalize joinR (r.take (tog r)) = q at *
      generalize r.drop (tog r) = r' at *
      generalize tog r = t at *
      go_wp2_with fail
      refine hc1.out.mono ?_
      rintro e w1 ⟨rfl, x1⟩
      clear hc1
      go_wp2_with fail
      refine (hc2.out _ x1).mono ?_
      rintro e w2 ⟨rfl, x2⟩
      clear hc2
      have hx2 : Ext wr w2 := x1.trans x2
      go_wp2_with (first
        | (at_builtin
           refine wpList_append_R (w0 := w) rfl (.tmp 10) (.tmp 15) rfl _ rs rfl ((ho.out.ext hx2).ext ((Ext.refl _).alloc _)) ((hx.trans hx2).alloc _) _ 1 1 [q] rfl rfl (RnS.new _ q) (by simp only [List.length_cons, List.length_nil]; omega) ?_
           intro v3 w3 o3 x3 g3 b3))
      go_roundw
      case rel => exact ⟨r', rs ++ [q], _, _, _, rfl, hdl, by omega, hcut, hwd, Lib.hid o3, by simp only [List.length_append, List.length_cons, List.length_nil]; omega, x3, Lib.hid (by rw [← hrel.out, hst.out]; simp)⟩
      case measure => simp [sliceLen]; omega
    · have hr : r = [] := List.eq_nil_of_length_eq_zero (by rw [hm.out]; omega)
      have hrs := Lib.hid (show rs = runsOf l by rw [← hrel.out, hr]; simp [runsOf])
      go_wp2
      go_ret
      exact ⟨_, rfl, hrs.out ▸ ho.out, hx⟩

end Go.Proofs.YthpminlfbjedpaaDoor

namespace Go.Proofs.YthpminlfbjedpaaDoor
open Go.ChangeShapes Go.WideShapes Go.ChangeAt Go.RowKit Go.Sort
set_option linter.unusedVariables false

/-- of two rows of one slot the second one comes behind the first one, and tells more -/
def SlotsOK (ops : Array Oper) (tab : SoftTab) : Prop := ∀ (i j d : Nat) (R R' : Told), i < j → tab[i]? = some (d, R) → tab[j]? = some (d, R') →
  (∀ v W, R' v W → R v W) ∧ ∃ o, ops[j]? = some o ∧ ∃ e ∈ o.after.toList, Region.binds .any e = true ∧ e.on = i
def depB (ops : Array Oper) (j i : Nat) : Bool := match ops[j]? with
  | some o => o.after.toList.any fun e => Region.binds .any e && e.on == i
  | none => false
theorem depB_spec {ops : Array Oper} {j i : Nat} (h : depB ops j i = true) : ∃ o, ops[j]? = some o ∧ ∃ e ∈ o.after.toList, Region.binds .any e = true ∧ e.on = i := by
  unfold depB at h
  split at h
  · rename_i o ho
    obtain ⟨e, he, hb⟩ := List.any_eq_true.1 h
    rw [Bool.and_eq_true, beq_iff_eq] at hb
    exact ⟨o, ho, e, he, hb.1, hb.2⟩
  · cases h
/-- one pair of rows shares its slot -/
theorem slots_pair {ops : Array Oper} {tab : SoftTab} (i0 j0 : Nat) (D : List Nat) (hD : tab.map (·.1) = D)
    (hp : ∀ i, i < D.length → ∀ j, j < D.length → i < j → D[i]? = D[j]? → i = i0 ∧ j = j0)
    (himp : ∀ d R R', tab[i0]? = some (d, R) → tab[j0]? = some (d, R') → ∀ v W, R' v W → R v W)
    (hdep : depB ops j0 i0 = true) : SlotsOK ops tab := by
  intro i j d R R' hij h1 h2
  have e1 : D[i]? = some d := by rw [← hD, List.getElem?_map, h1]; rfl
  have e2 : D[j]? = some d := by rw [← hD, List.getElem?_map, h2]; rfl
  obtain ⟨rfl, rfl⟩ := hp i (List.getElem?_eq_some_iff.1 e1).1 j (List.getElem?_eq_some_iff.1 e2).1 hij (by rw [e1, e2])
  exact ⟨himp d R R' h1 h2, depB_spec hdep⟩

theorem wpAny_softS {Rel : World → World → Prop} {P : Program} {ops : Array Oper} {n : Nat} {tab : SoftTab} {Q : Exit → Act → World → Prop} {a0 : Act} {w : World} {rest : List Oper}
    (htrans : ∀ a b c, Rel a b → Rel b c → Rel a c)
    (hlen : tab.length = n) (hsh : SlotsOK ops tab) (hsz : ∀ d ∈ tab.map (·.1), d < a0.tmps.size)
    (hn : n < ops.size) (hs : Region.sinkB .any ops n = true) (hc : Region.chainB .any ops n = true)
    (hback : ∀ (k : Nat) (o : Oper), k < n → ops[k]? = some o → ∀ e ∈ o.after.toList, Region.binds .any e = true → e.on < k)
    (hmono : ∀ (k d : Nat) (R : Told), tab[k]? = some (d, R) → ∀ (v : Value) (W W' : World), R v W → Rel W W' → R v W')
    (hstep : ∀ (k : Nat) (o : Oper), k < n → ops[k]? = some o → SoftStepR Rel P ops tab Q a0 w k o)
    (hrest : ∀ j, rest[j]? = ops[n + j]?) (hrl : rest.length = ops.size - n) (hseq : Region.seqB .any ops rest.length n (doneTo n ops.size) = true)
    (hend : ∀ a W, SoftAtR Rel tab a0 a w W (doneTo n ops.size) → wpList P ops Q rest a W) :
    ∀ (f : Nat) (listed : Array Bool) (a : Act) (W : World), HeadInv .any ops n listed → (listed.toList.take n).count false = f → SoftAtR Rel tab a0 a w W listed → wpAny P .any ops Q (f + rest.length) listed a W := by
  intro f
  induction f with
  | zero =>
    intro listed a W inv hcnt hI
    have e : listed = doneTo n ops.size := by
      apply Array.ext
      · rw [inv.size]; simp [doneTo]; omega
      · intro i h1 h2
        rcases Nat.lt_or_ge i n with h | h
        · have hm : listed[i] ∈ listed.toList.take n := by
            rw [List.mem_take_iff_getElem]
            exact ⟨i, by simp; omega, by simp⟩
          have hne : listed[i] ≠ false := fun e => by
            rw [e] at hm
            have := List.count_pos_iff.2 hm
            omega
          have : listed[i] = true := by simpa using hne
          rw [this]
          simp [doneTo, h]
        · have := inv.tail i h (by rw [← inv.size]; exact h1)
          have h3 : listed[i] = false := by simpa [Array.getD, h1] using this
          rw [h3]
          simp [doneTo, List.getElem_append, Nat.not_lt.2 h]
    subst e
    rw [Nat.zero_add]
    exact wpAny_of_seq (md := .any) rest n _ a W hrest hseq (hend a W hI)
  | succ f ih =>
    intro listed a W inv hcnt hI
    have hex : ∃ i, i < n ∧ listed.getD i true = false := by
      have hm : false ∈ listed.toList.take n := List.count_pos_iff.1 (by omega)
      rw [List.mem_take_iff_getElem] at hm
      obtain ⟨i, h1, h2⟩ := hm
      have h1' : i < n ∧ i < listed.size := by simp at h1; omega
      refine ⟨i, h1'.1, ?_⟩
      simp [Array.getD, h1'.2]
      simpa using h2
    obtain ⟨i0, hi0, hun0⟩ := hex
    rw [show f + 1 + rest.length = (f + rest.length) + 1 by omega]
    refine ⟨fun hr => ?_, fun i hi => ?_⟩
    · exfalso
      have key : ∀ k, k < n → listed.getD k false = true := by
        intro k
        induction k using Nat.strongRecOn with
        | ind k ihk =>
          intro hk
          rcases hb : listed.getD k false with _ | _
          · exfalso
            have hk' : k < listed.size := by rw [inv.size]; omega
            have hk2 : k < ops.size := by omega
            have hm : k ∈ Region.ready .any ops listed := by
              rw [mem_ready]
              refine ⟨getD_in hk' hb, ops[k], by simp [hk2], fun e he hb' => ?_⟩
              have hlt := hback k ops[k] hk (by simp [hk2]) e (by simpa using he) hb'
              exact ihk e.on hlt (by omega)
            rw [hr] at hm
            cases hm
          · rfl
      have h9 := key i0 hi0
      rw [getD_both hun0] at h9
      cases h9
    · have hin : i < n := by
        rcases Nat.lt_or_ge i n with h | h
        · exact h
        · exact absurd hi (tail_waits hs hc hn inv _ i0 rfl hi0 hun0 i h)
      obtain ⟨h1, o, ho, hdep⟩ := mem_ready.1 hi
      obtain ⟨⟨d, R⟩, htab⟩ : ∃ p, tab[i]? = some p := ⟨tab[i], List.getElem?_eq_getElem (by omega)⟩
      have hdsz : d < a.tmps.size := by rw [hI.size]; exact hsz d (List.mem_map.2 ⟨(d, R), List.mem_of_getElem? htab, rfl⟩)
      have hst := hstep i o hin ho a W hI.rel (fun t ht => by simp only [Array.getD_eq_getD_getElem?, hI.out t ht]) (fun e he hb d' R' ht' =>
        ⟨hI.told e.on d' R' ht' (hdep e (by simpa using he) hb), by rw [hI.size]; exact hsz d' (List.mem_map.2 ⟨(d', R'), List.mem_of_getElem? ht', rfl⟩)⟩) d R htab
      refine wpOp_mono (fun a' W' hh => ?_) hst
      obtain ⟨v, rfl, hR, hx⟩ := hh
      have hil' : i < listed.size := by rw [inv.size]; omega
      refine ih _ _ _ (inv.set hi hin) ?_ ⟨htrans _ _ _ hI.rel hx, hI.defers, by simp only [Act.put, Array.size_setIfInBounds]; exact hI.size, ?_, ?_⟩
      · have e : (listed.toList.take n)[i]? = some false := by
          have h3 : listed[i] = false := by simpa [Array.getD, hil'] using h1
          rw [List.getElem?_take, if_pos hin]
          simp [hil', h3]
        have := count_set (listed.toList.take n) i e
        rw [Array.toList_setIfInBounds, List.take_set]
        omega
      · intro t ht
        have hne : d ≠ t := fun e => ht (e ▸ List.mem_map.2 ⟨(d, R), List.mem_of_getElem? htab, rfl⟩)
        simp only [Act.put]
        rw [Array.getElem?_setIfInBounds_ne hne]
        exact hI.out t ht
      · intro k d2 R2 ht2 hl2
        simp only [Act.put]
        by_cases hki : k = i
        · subst hki
          obtain ⟨rfl, rfl⟩ : d = d2 ∧ R = R2 := by rw [htab] at ht2; injection ht2 with e; injection e with e1 e2; exact ⟨e1, e2⟩
          simp [hdsz]
          exact hR
        · have h3 : listed.getD k false = true := by rw [getD_set_ne false (fun e => hki e.symm)] at hl2; exact hl2
          by_cases hde : d = d2
          · subst hde
            have hR2 : R2 v W' := by
              rcases Nat.lt_or_ge i k with hlt | hge
              · obtain ⟨_, o', ho', e, he, hb, hon⟩ := hsh i k d R R2 hlt htab ht2
                have h4 := inv.closed k o' ho' h3 e (by simpa using he) hb
                rw [hon] at h4
                rw [getD_both h1] at h4
                cases h4
              · exact (hsh k i d R2 R (by omega) ht2 htab).1 _ _ hR
            simp [hdsz]
            exact hR2
          · have := hmono k d2 R2 ht2 _ _ _ (hI.told k d2 R2 ht2 h3) hx
            simp only [Array.getD_eq_getD_getElem?, Array.getElem?_setIfInBounds_ne hde]
            simp only [Array.getD_eq_getD_getElem?] at this
            exact this

/-- the region: a head of n operations by what its slots are told to hold, and the tail -/
theorem wp_soft_tailS (Rel : World → World → Prop) {P : Program} {l : List Oper} (n : Nat) (tab : SoftTab) {Q : Exit → Act → World → Prop} {a : Act} {w : World} {id : Nat} (hm : P.follows .mixedOrders = true)
    (hform : softForm n l = true) (htrans : ∀ a b c, Rel a b → Rel b c → Rel a c) (hdraw : Rel w { w with drawn := w.drawn + 1 })
    (hlen : tab.length = n) (hsh : SlotsOK l.toArray tab) (hsz : ∀ d ∈ tab.map (·.1), d < a.tmps.size) (hmono : SoftMonoR Rel tab)
    (hend : ∀ a' W, SoftAtR Rel tab a a' w W (doneTo n l.length) → wpList P l.toArray Q (l.drop n) a' W)
    (hstep : SoftAllR Rel P l.toArray tab Q a w (l.take n) 0) : (Code.region id l.toArray true).wp P Q a w := by
  unfold softForm at hform
  simp only [Bool.and_eq_true, decide_eq_true_eq] at hform
  obtain ⟨⟨⟨⟨hn, hs⟩, hc⟩, hb⟩, hq⟩ := hform
  have hdl : (l.drop n).length = l.length - n := by simp
  have inv0 : HeadInv .any l.toArray n (Array.replicate l.toArray.size false) :=
    ⟨by simp, fun j oj _ hl => (by rw [getD_replicate_false] at hl; cases hl), fun t _ ht => getD_in (by simpa using ht) (getD_replicate_false _ _)⟩
  refine wp_region_any hm ?_
  have := wpAny_softS (Rel := Rel) (P := P) (ops := l.toArray) (n := n) (tab := tab) (Q := Q) (a0 := a) (w := w) (rest := l.drop n) htrans hlen hsh hsz (by simpa using hn) hs hc
    (fun k o hk ho => softBackN_spec hb k o hk (by simpa using ho)) (fun k d R h v W W' => hmono (d, R) (List.mem_of_getElem? h) v W W')
    (fun k o hk ho => by
      have := softAllR_spec (l.take n) 0 hstep k o (by rw [List.getElem?_take, if_pos hk]; simpa using ho)
      rwa [Nat.zero_add] at this)
    (fun j => by simp [List.getElem?_drop]) (by simp) (by rw [hdl]; simpa using hq) (fun a' W h => hend a' W (by simpa using h)) n (Array.replicate l.toArray.size false) a { w with drawn := w.drawn + 1 } inv0
    (by
      simp
      omega) ⟨hdraw, rfl, rfl, fun _ _ => rfl, fun k d R h1 h2 => by rw [getD_replicate_false] at h2; cases h2⟩
  rw [hdl] at this
  have e : n + (l.length - n) = l.toArray.size := by simp; omega
  rw [e] at this
  exact this

/-- an operation that fills no slot (a store): the slot of its row is one that nobody reads -/
theorem softS_none {Rel : World → World → Prop} {P : Program} {ops : Array Oper} {tab : SoftTab} {Q : Exit → Act → World → Prop} {a0 : Act} {w : World} {k : Nat} {o : Oper} (d : Nat) (R : Told) (hk : ops[k]? = some o) (hd : o.dst = none) (htab : tab[k]? = some (d, R))
    (h : ∀ (a : Act) (W : World), Rel w W → (∀ t, t ∉ tab.map (·.1) → a.tmps.getD t undef = a0.tmps.getD t undef) → (∀ e ∈ o.after.toList, Region.binds .any e = true → ∀ (d : Nat) (R : Told), tab[e.on]? = some (d, R) → R (a.tmps.getD d undef) W ∧ d < a.tmps.size) →
      Region.wanted o (yielded ops a.tmps) = true ∧ ∃ W', (execOp a.eval o).run P W = .ok .skip W' ∧ R (a.tmps.getD d undef) W' ∧ Rel W W') : SoftStepR Rel P ops tab Q a0 w k o := by
  intro a W hx hout hdep d' R' ht
  rw [htab] at ht
  injection ht with ht
  injection ht with e1 e2
  subst e1
  subst e2
  obtain ⟨hw, W', hrun, hR, hE⟩ := h a W hx hout hdep
  unfold wpOp
  simp only [hk]
  rw [if_pos hw]
  refine Or.inl ?_
  unfold Oper.wp
  rw [hrun]
  show ∃ v, a.put o.dst undef = a.put (some d) v ∧ _
  rw [hd]
  rcases Nat.lt_or_ge d a.tmps.size with hs | hs
  · exact ⟨_, (Act.put_self a d hs).symm, hR, hE⟩
  · refine ⟨undef, ?_, by rw [Array.getD_eq_getD_getElem?, Array.getElem?_eq_none hs] at hR; exact hR, hE⟩
    cases a with
    | mk t df => simp only [Act.put]; congr 1; exact (Array.setIfInBounds_eq_of_size_le hs).symm

/-- the region, the frame behind it written out -/
theorem wp_soft_frameS (Rel : World → World → Prop) {P : Program} {l : List Oper} (n : Nat) (tab : SoftTab) {Q : Exit → Act → World → Prop} {a : Act} {w : World} {id : Nat} (hm : P.follows .mixedOrders = true)
    (hform : softForm n l = true) (htrans : ∀ a b c, Rel a b → Rel b c → Rel a c) (hdraw : Rel w { w with drawn := w.drawn + 1 })
    (hlen : tab.length = n) (hsh : SlotsOK l.toArray tab) (hsz : ∀ d ∈ tab.map (·.1), d < a.tmps.size) (hmono : SoftMonoR Rel tab)
    (hend : ∀ (W : World) (vs : List Value), ToldAll tab vs W → Rel w W → wpList P l.toArray Q (l.drop n) ⟨putAll a.tmps ((tab.map (·.1)).zip vs), a.defers⟩ W)
    (hstep : SoftAllR Rel P l.toArray tab Q a w (l.take n) 0) : (Code.region id l.toArray true).wp P Q a w := by
  refine wp_soft_tailS Rel n tab hm hform htrans hdraw hlen hsh hsz hmono (fun a' W hS => ?_) hstep
  have h1 := hend W (tab.map fun p => a'.tmps.getD p.1 undef) (toldAll_of (f := fun d => a'.tmps.getD d undef) tab fun k d R hk => hS.told k d R hk (by
    have hk' : k < n := by have := (List.getElem?_eq_some_iff.1 hk).1; omega
    simp [doneTo, hk', List.getElem?_append])) hS.rel
  rw [zip_told (fun d => a'.tmps.getD d undef), ← putAll_of a'.tmps _ a.tmps hS.size hS.out, ← hS.defers] at h1
  exact h1

end Go.Proofs.YthpminlfbjedpaaDoor

namespace Go.Proofs.YthpminlfbjedpaaDoor
open Go.ChangeShapes Go.WideShapes Go.ChangeAt Go.RowKit Go.Sort
set_option linter.unusedVariables false
attribute [local go_sem] World.cell?_alloc_some

/-- a block that holds one Id -/
def IdIs (x y : Int) (W : World) (q : Nat) : Prop := W.heap[q]? = some (.cells #[Vu x, Vu y] 47 (0, 0))
theorem IdIs.store {x y u v : Int} {W : World} {q : Nat} (hb : W.heap[q]? = some (.cells #[Vu u, Vu v] 47 (0, 0))) : IdIs x y ((W.setCell ⟨q, 0, none⟩ (Vu x)).setCell ⟨q, 1, none⟩ (Vu y)) q :=
  heap_setCell_same _ _ 1 _ _ _ (heap_setCell_same _ _ 0 _ _ _ hb)
/-- how the world goes on in lastId's statement -/
def LRel (B : Nat) (x y : Int) (W W' : World) : Prop := Below B W W' ∧ (∀ q, IdBlk W q → IdBlk W' q) ∧ ∀ q, IdIs x y W q → IdIs x y W' q
theorem LRel.refl (B : Nat) (x y : Int) (W : World) : LRel B x y W W := ⟨Below.refl _ _, fun _ h => h, fun _ h => h⟩
theorem LRel.trans {B : Nat} {x y : Int} (a b c : World) (h : LRel B x y a b) (k : LRel B x y b c) : LRel B x y a c := ⟨h.1.trans k.1, fun q hq => k.2.1 q (h.2.1 q hq), fun q hq => k.2.2 q (h.2.2 q hq)⟩
theorem LRel.ext {B : Nat} {x y : Int} {w W W' : World} (hx : LRel B x y w W) (h : Ext W W') (hB : B ≤ w.heap.size := by assumption) : LRel B x y W W' := by
  refine ⟨Below.mono h (Nat.le_trans hB hx.1.size), fun q hq => ?_, fun q hq => ?_⟩
  · obtain ⟨u, v, hq⟩ := hq
    exact ⟨u, v, by rw [RowKit.Below.block h q (Array.getElem?_eq_some_iff.1 hq).1]; exact hq⟩
  · unfold IdIs at hq ⊢
    rw [RowKit.Below.block h q (Array.getElem?_eq_some_iff.1 hq).1]; exact hq
theorem LRel.alloc {B : Nat} {x y : Int} {w W : World} (hx : LRel B x y w W) (o : Obj) (hB : B ≤ w.heap.size := by assumption) : LRel B x y W (W.alloc o) := LRel.ext hx ((Ext.refl W).alloc o) hB
theorem LRel.store {B : Nat} {x y : Int} {w W : World} {q : Nat} (hx : LRel B x y w W) (hq : B ≤ q) : LRel B x y W ((W.setCell ⟨q, 0, none⟩ (Vu x)).setCell ⟨q, 1, none⟩ (Vu y)) := by
  refine ⟨((Below.refl _ _).setCell hq _).setCell hq _, fun q' hb => ?_, fun q' hb => ?_⟩
  · obtain ⟨u, v, hb⟩ := hb
    by_cases he : q' = q
    · subst he
      exact ⟨x, y, heap_setCell_same _ _ 1 _ _ _ (heap_setCell_same _ _ 0 _ _ _ hb)⟩
    · exact ⟨u, v, by rw [heap_setCell_other _ _ _ _ he, heap_setCell_other _ _ _ _ he]; exact hb⟩
  · unfold IdIs at hb ⊢
    by_cases he : q' = q
    · subst he
      exact heap_setCell_same _ _ 1 _ _ _ (heap_setCell_same _ _ 0 _ _ _ hb)
    · rw [heap_setCell_other _ _ _ _ he, heap_setCell_other _ _ _ _ he]; exact hb
/-- what the slots hold -/
def lstTab (B pa n : Nat) (r : Rn) (y : Int) : SoftTab := [(6, fun z9 W => z9 = .pointer (some ⟨pa, 0, none⟩)),
  (7, fun z9 W => z9 = idv r.c r.k),
  (8, fun z9 W => z9 = .pointer (some ⟨pa, 6, none⟩)),
  (9, fun z9 W => z9 = .string ⟨r.t.toArray⟩),
  (10, fun z9 W => z9 = Vi (n : Int)),
  (11, fun z9 W => z9 = Vi ((n : Int) - 1)),
  (12, fun z9 W => z9 = .tuple #[idv r.c y, .nilIface]),
  (5, fun z9 W => z9 = .tuple #[idv r.c y, .nilIface]),
  (13, fun z9 W => z9 = idv r.c y),
  (14, fun z9 W => z9 = .nilIface),
  (3, fun z9 W => ∃ q, z9 = .pointer (some ⟨q, 0, none⟩) ∧ B ≤ q ∧ IdBlk W q),
  (3, fun z9 W => ∃ q, z9 = .pointer (some ⟨q, 0, none⟩) ∧ B ≤ q ∧ IdIs r.c y W q)]
theorem lstTab_mono (B pa n : Nat) (r : Rn) (y : Int) : SoftMonoR (LRel B r.c y) (lstTab B pa n r y) := by
  intro p hp v W W' h hx
  simp only [lstTab, List.mem_cons, List.not_mem_nil, or_false] at hp
  rcases hp with rfl | rfl | rfl | rfl | rfl | rfl | rfl | rfl | rfl | rfl | rfl | rfl
  all_goals first
    | exact h
    | (obtain ⟨q, h1, h2, h3⟩ := h
       first
         | exact ⟨q, h1, h2, hx.2.1 q h3⟩
         | exact ⟨q, h1, h2, hx.2.2 q h3⟩)

set_option maxRecDepth 100000 in
set_option maxHeartbeats 4000000 in
theorem lastId_any (r : Rn) (w : World) (hm : mayN r = true) (hk0 : 0 ≤ r.k) (hk1 : r.k ≤ 4294967295) (ht : r.t.length ≤ 200000) :
    Calls Tryd.prog 45 #[rnv r] w fun e w' => e = .returned (idv r.c (lastK r)) ∧ Ext w w' := by
  have hl := runesD_len r.t
  have hsz : (⟨r.t.toArray⟩ : ByteArray).size = r.t.length := by show r.t.toArray.size = _; simp
  have hcnt := Lib.hid (fun W => runeCount_any ⟨r.t.toArray⟩ W (by rw [hsz]; omega))
  rw [runeCount_D] at hcnt
  replace hcnt : Hid (∀ (W : World), Calls Tryd.prog 44 #[.string ⟨r.t.toArray⟩] W fun e w' => e = .returned (.int .i64 ((runesD r.t).length : Int)) ∧ Ext W w') := hcnt
  clear hsz
  obtain ⟨v, vs, hr, hc, hkv, _, _, _⟩ := may_go hm
  obtain ⟨n, hcn⟩ : ∃ n, (runesD r.t).length = n := ⟨_, rfl⟩
  have hvs : n = vs.length + 1 := by rw [← hcn, hr]; simp
  rw [hcn] at hcnt hl
  obtain ⟨y, hy⟩ : ∃ y, lastK r = y := ⟨_, rfl⟩
  have hyk : y = r.k + ((n : Int) - 1) := by rw [← hy, lastK, hcn]; omega
  rw [hy]
  have haft := Lib.hid (fun W => after_nil (a := r.c) (b := r.k) (n := (n : Int) - 1) (l := 4294967295) (x := r.c) (y := y) W (by unfold aftId; rw [if_neg (by omega), if_neg (by omega), hyk]) hk0 hk1 (by omega) (by omega) (by omega) (by omega))
  have hsub : IntKind.i64.wrap ((n : Int) - 1) = (n : Int) - 1 := IntWalk.i64_in _ (by omega)
  clear hcn hl hr hc hkv hy hyk hvs hm
  go_enter Tryd.func45, Tryd.ntmps45
  go_wp2_with fail
  obtain ⟨w1, hw1⟩ : ∃ W, (w.alloc (.cells #[.int .u32 r.c, .int .u32 r.k, .int .u32 r.lc, .int .u32 r.lk, .int .u32 r.rc, .int .u32 r.rk, .string ⟨r.t.toArray⟩] 49)).alloc (.cells #[.int .u32 0, .int .u32 0] 47) = W := ⟨_, rfl⟩
  have a0 : w1.cell? ⟨w.heap.size, 0, none⟩ = some (Vu r.c) := by rw [← hw1]; simp [go_sem]
  have a1 : w1.cell? ⟨w.heap.size, 1, none⟩ = some (Vu r.k) := by rw [← hw1]; simp [go_sem]
  have a6 : w1.cell? ⟨w.heap.size, 6, none⟩ = some (.string ⟨r.t.toArray⟩) := by rw [← hw1]; simp [go_sem]
  have b0 : w1.heap[w.heap.size + 1]? = some (.cells #[Vu 0, Vu 0] 47 (0, 0)) := by
    rw [← hw1]
    have := heap_alloc_new (w.alloc (.cells #[.int .u32 r.c, .int .u32 r.k, .int .u32 r.lc, .int .u32 r.lk, .int .u32 r.rc, .int .u32 r.rk, .string ⟨r.t.toArray⟩] 49)) (.cells #[.int .u32 0, .int .u32 0] 47)
    rwa [show (w.alloc (.cells #[.int .u32 r.c, .int .u32 r.k, .int .u32 r.lc, .int .u32 r.lk, .int .u32 r.rc, .int .u32 r.rk, .string ⟨r.t.toArray⟩] 49)).heap.size = w.heap.size + 1 by simp] at this
  have x1 : Ext w w1 := by rw [← hw1]; exact ((Ext.refl _).alloc _).alloc _
  rw [hw1]
  clear hw1
  have hpa : w.heap.size + 1 < w1.heap.size := (Array.getElem?_eq_some_iff.1 b0).1
  obtain ⟨pa, hpd⟩ : ∃ pa, w.heap.size = pa := ⟨_, rfl⟩
  rw [hpd] at a0 a1 a6 b0 hpa ⊢
  obtain ⟨B, hBd⟩ : ∃ B, w1.heap.size = B := ⟨_, rfl⟩
  have hB : B ≤ w1.heap.size := by omega
  have hK : ∀ W, LRel B r.c y w1 W → ∀ {j : Nat} {v : Value}, w1.cell? ⟨pa, j, none⟩ = some v → W.cell? ⟨pa, j, none⟩ = some v := fun W hW j v h => by rw [RowKit.Below.cell (p := ⟨pa, j, none⟩) hW.1 (by show pa < B; omega)]; exact h
  refine wp_soft_frameS (LRel B r.c y) 12 (lstTab B pa n r y) (by kernel_rfl) (by kernel_rfl) LRel.trans ⟨(Below.refl _ _).drew, fun _ h => h, fun _ h => h⟩ rfl
    (slots_pair 10 11 [6, 7, 8, 9, 10, 11, 12, 5, 13, 14, 3, 3] rfl (by decide) (fun d R R' h1 h2 v W hh => ?_) (by kernel_rfl))
    (by show ∀ d ∈ [6, 7, 8, 9, 10, 11, 12, 5, 13, 14, 3, 3], d < 16; decide) (lstTab_mono B pa n r y) ?_ ⟨?_, ?_, ?_, ?_, ?_, ?_, ?_, ?_, ?_, ?_, ?_, ?_, trivial⟩
  · simp only [lstTab, List.getElem?_cons_succ, List.getElem?_cons_zero, Option.some.injEq, Prod.mk.injEq] at h1 h2
    obtain ⟨_, rfl⟩ := h1
    obtain ⟨_, rfl⟩ := h2
    obtain ⟨q, e1, e2, e3⟩ := hh
    exact ⟨q, e1, e2, _, _, e3⟩
  · intro W vs hT hR
    match vs, hT with
    | [v0, v1, v2, v3, v4, v5, v6, v7, v8, v9, v10, v11], ⟨e0, e1, e2, e3, e4, e5, e6, e7, e8, e9, e10, e11, _⟩ =>
      simp only [lstTab, List.map_cons, List.map_nil, List.zip_cons_cons, List.zip_nil_left, putAll, List.setIfInBounds_toArray, List.set_cons_zero, List.set_cons_succ, List.drop_succ_cons, List.drop_zero]
      simp only at e0 e1 e2 e3 e4 e5 e6 e7 e8 e9 e10 e11
      obtain ⟨q, e11, hq, hb⟩ := e11
      rw [e0, e1, e2, e3, e4, e5, e6, e7, e8, e9, e11]
      clear e0 e1 e2 e3 e4 e5 e6 e7 e8 e9 e10 e11 v0 v1 v2 v3 v4 v5 v6 v7 v8 v9
      have hE2 : Ext w W := x1.trans (by have h1 := hR.1; rw [← hBd] at h1; exact h1)
      have g0 := cell_of_row W q 0 _ _ _ hb
      have g1 := cell_of_row W q 1 _ _ _ hb
      have hb0 : W.heap[pa + 1]? = some (.cells #[Vu 0, Vu 0] 47 (0, 0)) := by rw [RowKit.Below.block hR.1 (pa + 1) (by omega)]; exact b0
      have f0 := frozen_of_row W (pa + 1) 0 _ _ hb0
      have f1 := frozen_of_row W (pa + 1) 1 _ _ hb0
      have k0 := cell_of_row W (pa + 1) 0 _ _ _ hb0
      have k1 := cell_of_row W (pa + 1) 1 _ _ _ hb0
      clear hb hT a0 a1 a6 hK hR x1 hsub haft hcnt b0 hB hBd
      go_wp2
      have hc := IdIs.store (x := r.c) (y := y) hb0
      have z0 := cell_of_row _ (pa + 1) 0 _ _ _ hc
      have z1 := cell_of_row _ (pa + 1) 1 _ _ _ hc
      exact bodyPost_ret (v := idv r.c y) (by simp [results, Tryd.results45, go_sem, z0, z1]) rfl ⟨rfl, (hE2.setCell (by show w.heap.size ≤ pa + 1; omega) _).setCell (by show w.heap.size ≤ pa + 1; omega) _⟩
  · refine softR_val 6 _ (by kernel_rfl) rfl rfl ?_
    intro a W hx hout hdep
    have ev1 : a.tmps[1]?.getD undef = .pointer (some ⟨pa, 0, none⟩) := by rw [← Array.getD_eq_getD_getElem?]; exact hout 1 (by show 1 ∉ [6, 7, 8, 9, 10, 11, 12, 5, 13, 14, 3, 3]; decide)
    refine ⟨rfl, .pointer (some ⟨pa, 0, none⟩), W, ?_, rfl, LRel.refl _ _ _ _⟩
    simp [ev1, execOp, go_sem]
  · refine softR_val 7 _ (by kernel_rfl) rfl rfl ?_
    intro a W hx hout hdep
    have ev6 : a.tmps[6]?.getD undef = .pointer (some ⟨pa, 0, none⟩) := by rw [← Array.getD_eq_getD_getElem?]; exact (hdep ⟨0, .data⟩ (by simp) rfl 6 _ rfl).1
    have q0 := hK W hx a0
    have q1 := hK W hx a1
    refine ⟨rfl, idv r.c r.k, W, ?_, rfl, LRel.refl _ _ _ _⟩
    simp [ev6, q0, q1, execOp, go_sem]
  · refine softR_val 8 _ (by kernel_rfl) rfl rfl ?_
    intro a W hx hout hdep
    have ev1 : a.tmps[1]?.getD undef = .pointer (some ⟨pa, 0, none⟩) := by rw [← Array.getD_eq_getD_getElem?]; exact hout 1 (by show 1 ∉ [6, 7, 8, 9, 10, 11, 12, 5, 13, 14, 3, 3]; decide)
    refine ⟨rfl, .pointer (some ⟨pa, 6, none⟩), W, ?_, rfl, LRel.refl _ _ _ _⟩
    simp [ev1, execOp, go_sem]
  · refine softR_val 9 _ (by kernel_rfl) rfl rfl ?_
    intro a W hx hout hdep
    have ev8 : a.tmps[8]?.getD undef = .pointer (some ⟨pa, 6, none⟩) := by rw [← Array.getD_eq_getD_getElem?]; exact (hdep ⟨2, .data⟩ (by simp) rfl 8 _ rfl).1
    have q6 := hK W hx a6
    refine ⟨rfl, .string ⟨r.t.toArray⟩, W, ?_, rfl, LRel.refl _ _ _ _⟩
    simp [ev8, q6, execOp, go_sem]
  · refine softR_call 10 _ (by kernel_rfl) rfl rfl ?_
    intro a W hx hout hdep
    have ev9 : a.tmps[9]?.getD undef = .string ⟨r.t.toArray⟩ := by rw [← Array.getD_eq_getD_getElem?]; exact (hdep ⟨3, .data⟩ (by simp) rfl 9 _ rfl).1
    refine ⟨rfl, 44, #[.string ⟨r.t.toArray⟩], ?_, ?_⟩
    · simp [ev9, execOp, go_sem]
    · exact (hcnt.out W).mono (by rintro e W1 ⟨rfl, h⟩; exact ⟨_, rfl, rfl, LRel.ext hx h⟩)
  · refine softR_val 11 _ (by kernel_rfl) rfl rfl ?_
    intro a W hx hout hdep
    have ev10 : a.tmps[10]?.getD undef = Vi (n : Int) := by rw [← Array.getD_eq_getD_getElem?]; exact (hdep ⟨4, .data⟩ (by simp) rfl 10 _ rfl).1
    refine ⟨rfl, Vi ((n : Int) - 1), W, ?_, rfl, LRel.refl _ _ _ _⟩
    simp [ev10, hsub, execOp, go_sem]
  · refine softR_call 12 _ (by kernel_rfl) rfl rfl ?_
    intro a W hx hout hdep
    have ev7 : a.tmps[7]?.getD undef = idv r.c r.k := by rw [← Array.getD_eq_getD_getElem?]; exact (hdep ⟨1, .data⟩ (by simp) rfl 7 _ rfl).1
    have ev11 : a.tmps[11]?.getD undef = Vi ((n : Int) - 1) := by rw [← Array.getD_eq_getD_getElem?]; exact (hdep ⟨5, .data⟩ (by simp) rfl 11 _ rfl).1
    refine ⟨rfl, 43, #[idv r.c r.k, Vi ((n : Int) - 1), Vu 4294967295], ?_, ?_⟩
    · simp [ev7, ev11, execOp, go_sem]
    · exact (haft.out W).mono (by rintro e W1 ⟨rfl, h⟩; exact ⟨_, rfl, rfl, LRel.ext hx h⟩)
  · refine softR_val 5 _ (by kernel_rfl) rfl rfl ?_
    intro a W hx hout hdep
    have ev12 : a.tmps[12]?.getD undef = .tuple #[idv r.c y, .nilIface] := by rw [← Array.getD_eq_getD_getElem?]; exact (hdep ⟨6, .data⟩ (by simp) rfl 12 _ rfl).1
    refine ⟨rfl, .tuple #[idv r.c y, .nilIface], W, ?_, rfl, LRel.refl _ _ _ _⟩
    simp [ev12, execOp, go_sem]
  · refine softR_val 13 _ (by kernel_rfl) rfl rfl ?_
    intro a W hx hout hdep
    have ev5 : a.tmps[5]?.getD undef = .tuple #[idv r.c y, .nilIface] := by rw [← Array.getD_eq_getD_getElem?]; exact (hdep ⟨7, .data⟩ (by simp) rfl 5 _ rfl).1
    refine ⟨rfl, idv r.c y, W, ?_, rfl, LRel.refl _ _ _ _⟩
    simp [ev5, execOp, go_sem]
  · refine softR_val 14 _ (by kernel_rfl) rfl rfl ?_
    intro a W hx hout hdep
    have ev5 : a.tmps[5]?.getD undef = .tuple #[idv r.c y, .nilIface] := by rw [← Array.getD_eq_getD_getElem?]; exact (hdep ⟨7, .data⟩ (by simp) rfl 5 _ rfl).1
    refine ⟨rfl, .nilIface, W, ?_, rfl, LRel.refl _ _ _ _⟩
    simp [ev5, execOp, go_sem]
  · refine softR_val 3 _ (by kernel_rfl) rfl rfl ?_
    intro a W hx hout hdep
    refine ⟨rfl, .pointer (some ⟨W.heap.size, 0, none⟩), W.alloc (.cells #[Vu 0, Vu 0] 47), ?_, ⟨_, rfl, Nat.le_trans hB hx.1.size, IdBlk.new W⟩, LRel.alloc hx _⟩
    simp [execOp, go_sem]
  · refine softS_none 3 _ (by kernel_rfl) rfl rfl ?_
    intro a W hx hout hdep
    have tl3 := (hdep ⟨10, .data⟩ (by simp) rfl 3 _ rfl).1
    have ev13 : a.tmps[13]?.getD undef = idv r.c y := by rw [← Array.getD_eq_getD_getElem?]; exact (hdep ⟨8, .data⟩ (by simp) rfl 13 _ rfl).1
    obtain ⟨q, eq, hq, hb⟩ := tl3
    obtain ⟨u, v, hb⟩ := hb
    have f0 := frozen_of_row W q 0 _ _ hb
    have f1 := frozen_of_row W q 1 _ _ hb
    have g0 := cell_of_row W q 0 _ _ _ hb
    have g1 := cell_of_row W q 1 _ _ _ hb
    have eq0 := eq
    rw [Array.getD_eq_getD_getElem?] at eq
    refine ⟨rfl, (W.setCell ⟨q, 0, none⟩ (Vu r.c)).setCell ⟨q, 1, none⟩ (Vu y), ?_, ⟨q, eq0, hq, IdIs.store hb⟩, LRel.store hx hq⟩
    simp [eq, f0, f1, g0, g1, ev13, execOp, go_sem]

theorem two_runs (x y : It) : (runsOf [x, y]).length = if onI x y then 1 else 2 := by
  rw [runs_cons, consR_len _ _ _ (fun _ => runs_ne (by simp))]
  show (runsOf [y]).length + (if onI x y = true then 0 else 1) = _
  have : (runsOf [y]).length = 1 := rfl
  rw [this]
  split <;> rfl
/-- may a run stand behind another one -/
def apartR (r s : Rn) : Bool := befR r s && !onR r s
theorem cmp_bef (r s : Rn) : decide (0 ≤ cmpId r.c (lastK r) s.c s.k) = !befR r s := by
  have : (0 ≤ cmpId r.c (lastK r) s.c s.k) ↔ ¬ (r.c < s.c ∨ r.c = s.c ∧ lastK r < s.k) := by
    unfold cmpId cmpI
    (repeat' split) <;> omega
  unfold befR
  by_cases h : r.c < s.c ∨ r.c = s.c ∧ lastK r < s.k
  · simp [this, h]
  · simp [this, h]

set_option maxRecDepth 100000 in
set_option maxHeartbeats 4000000 in
theorem apart6_any (r s : Rn) (w : World) (hm : mayN r = true) (hwr : wfR r) (hws : wfR s) (ht : r.t.length ≤ 200000) :
    Calls Tryd.prog 32 #[rnv r, rnv s] w fun e w' => e = .returned (.bool (apartR r s)) ∧ Ext w w' := by
  have hwr' := hwr
  have hws' := hws
  unfold wfR at hwr' hws'
  have hlk : 0 ≤ lastK r ∧ lastK r ≤ 4294967295 := by
    obtain ⟨_, vs, _, _, h1, h2, _, _⟩ := may_go hm
    omega
  have hc1 := Lib.hid (fun W => lastId_any r W hm hwr'.2.2.1 hwr'.2.2.2.1 ht)
  have hc2 := Lib.hid (fun W => cmp_any r.c (lastK r) s.c s.k W)
  have hcb := cmp_bef r s
  have hx : Hid (wfIs [⟨r.c, lastK r, 0, 0, r.rc, r.rk, 0⟩, ⟨s.c, s.k, s.lc, s.lk, s.rc, s.rk, 0⟩]) := Lib.hid (by
    intro z hz
    simp only [List.mem_cons, List.not_mem_nil, or_false] at hz
    unfold wfI
    rcases hz with rfl | rfl <;> simp only <;> omega)
  have htwo := Lib.hid (two_runs ⟨r.c, lastK r, 0, 0, r.rc, r.rk, 0⟩ ⟨s.c, s.k, s.lc, s.lk, s.rc, s.rk, 0⟩)
  have hon : onI ⟨r.c, lastK r, 0, 0, r.rc, r.rk, 0⟩ ⟨s.c, s.k, s.lc, s.lk, s.rc, s.rk, 0⟩ = onR r s := rfl
  rw [hon] at htwo
  clear hon
  generalize lastK r = y at *
  generalize cmpId r.c y s.c s.k = z at *
  clear hwr hws hwr' hws' hm ht hlk
  cases hbe : befR r s with
  | false =>
    rw [hbe, Bool.not_false] at hcb
    have hans := Lib.hid (show apartR r s = false by unfold apartR; rw [hbe, Bool.false_and])
    go_enter Tryd.func32, Tryd.ntmps32
    go_wp2_with fail
    refine (hc1.out _).mono ?_
    rintro e w1 ⟨rfl, x1⟩
    have b0 := x1.keep (p := ⟨w.heap.size + 1, 0, none⟩) (v := Vu s.c) (by simp [go_sem])
    have b1 := x1.keep (p := ⟨w.heap.size + 1, 1, none⟩) (v := Vu s.k) (by simp [go_sem])
    have hE1 : Ext w w1 := (((Ext.refl _).alloc _).alloc _).trans x1
    clear x1
    go_wp2_with fail
    refine (hc2.out _).mono ?_
    rintro e w2 ⟨rfl, x2⟩
    go_wp2
    go_ret
    exact ⟨ret_bool (a := false) hans.out.symm, (hE1.alloc _).trans x2⟩
  | true =>
    rw [hbe, Bool.not_true] at hcb
    have hans := Lib.hid (show apartR r s = !onR r s by unfold apartR; rw [hbe, Bool.true_and])
    go_enter Tryd.func32, Tryd.ntmps32
    go_wp2_with fail
    refine (hc1.out _).mono ?_
    rintro e w1 ⟨rfl, x1⟩
    have a4 := x1.keep (p := ⟨w.heap.size, 4, none⟩) (v := Vu r.rc) (by simp [go_sem])
    have a5 := x1.keep (p := ⟨w.heap.size, 5, none⟩) (v := Vu r.rk) (by simp [go_sem])
    have b0 := x1.keep (p := ⟨w.heap.size + 1, 0, none⟩) (v := Vu s.c) (by simp [go_sem])
    have b1 := x1.keep (p := ⟨w.heap.size + 1, 1, none⟩) (v := Vu s.k) (by simp [go_sem])
    have b2 := x1.keep (p := ⟨w.heap.size + 1, 2, none⟩) (v := Vu s.lc) (by simp [go_sem])
    have b3 := x1.keep (p := ⟨w.heap.size + 1, 3, none⟩) (v := Vu s.lk) (by simp [go_sem])
    have b4 := x1.keep (p := ⟨w.heap.size + 1, 4, none⟩) (v := Vu s.rc) (by simp [go_sem])
    have b5 := x1.keep (p := ⟨w.heap.size + 1, 5, none⟩) (v := Vu s.rk) (by simp [go_sem])
    have hE1 : Ext w w1 := (((Ext.refl _).alloc _).alloc _).trans x1
    clear x1
    generalize w.heap.size = pa at *
    go_wp2_with fail
    refine (hc2.out _).mono ?_
    rintro e w2 ⟨rfl, x2⟩
    have k2 := ((Ext.refl w1).alloc (.cells #[.int .u32 r.c, .int .u32 y] 47)).trans x2
    have c0 := x2.keep (p := ⟨w1.heap.size, 0, none⟩) (v := Vu r.c) (by simp [go_sem])
    have c1 := x2.keep (p := ⟨w1.heap.size, 1, none⟩) (v := Vu y) (by simp [go_sem])
    replace a4 := k2.keep a4
    replace a5 := k2.keep a5
    replace b0 := k2.keep b0
    replace b1 := k2.keep b1
    replace b2 := k2.keep b2
    replace b3 := k2.keep b3
    replace b4 := k2.keep b4
    replace b5 := k2.keep b5
    replace hE1 := hE1.trans k2
    clear x2 k2
    generalize w1.heap.size = pe at *
    go_wp2_with fail
    refine (of_any _ 2 2 [⟨r.c, y, 0, 0, r.rc, r.rk, 0⟩, ⟨s.c, s.k, s.lc, s.lk, s.rc, s.rk, 0⟩] _ (Row.new w2 _ 56) rfl (by omega) hx.out (by omega)).mono ?_
    rintro e w3 ⟨v3, rfl, o3, x3⟩
    obtain ⟨A3, cc3, rfl, _, _⟩ := OwnR.open o3
    rw [htwo.out]
    cases hono : onR r s with
    | true =>
      rw [hono, Bool.not_true] at hans
      go_wp2
      go_ret
      exact ⟨ret_bool (a := false) hans.out.symm, (hE1.alloc _).trans x3⟩
    | false =>
      rw [hono, Bool.not_false] at hans
      go_wp2
      go_ret
      exact ⟨ret_bool (a := true) hans.out.symm, (hE1.alloc _).trans x3⟩

end Go.Proofs.YthpminlfbjedpaaDoor

namespace Go.Proofs.YthpminlfbjedpaaDoor
open Go.ChangeShapes Go.WideShapes Go.ChangeAt Go.RowKit Go.Sort
set_option linter.unusedVariables false
attribute [local go_sem] World.cell?_alloc_some

def aheadS (l : List (Int × Int × Int)) : Nat → Int × Int × Int
  | 0 => zS
  | k + 1 => (l[k]?).getD zS
theorem mayS_drop {l : List (Int × Int × Int)} {k : Nat} {p : Int × Int × Int} (h : l[k]? = some p) (a : Int × Int × Int) : maySp a (l.drop k) = ((apartB a p && goodB p) && maySp p (l.drop (k + 1))) := by
  obtain ⟨hk, e⟩ := List.getElem?_eq_some_iff.1 h
  rw [List.drop_eq_getElem_cons hk, e, maySp]
theorem mayS_end {l : List (Int × Int × Int)} {k : Nat} (h : l.length ≤ k) (a : Int × Int × Int) : maySp a (l.drop k) = true := by
  rw [List.drop_eq_nil_of_le h]; rfl
theorem aheadS_succ {l : List (Int × Int × Int)} {k : Nat} {p : Int × Int × Int} (h : l[k]? = some p) : aheadS l (k + 1) = p := by simp [aheadS, h]
theorem mayS_bad {l : List (Int × Int × Int)} {k : Nat} {p : Int × Int × Int} (h : l[k]? = some p) (hg : goodB p = false) (a : Int × Int × Int) : maySp a (l.drop k) = false := by
  rw [mayS_drop h, hg, Bool.and_false, Bool.false_and]
theorem mayS_first {l : List (Int × Int × Int)} {p : Int × Int × Int} (h : l[0]? = some p) (hg : goodB p = true) : maySp (aheadS l 0) (l.drop 0) = maySp (aheadS l (0 + 1)) (l.drop (0 + 1)) := by
  rw [mayS_drop h, hg, aheadS_succ h, show apartB (aheadS l 0) p = true from apart_iff.2 (.inl (good_iff.1 hg).1), Bool.and_true, Bool.true_and]
theorem mayS_next {l : List (Int × Int × Int)} {k : Nat} {p q : Int × Int × Int} (h : l[k + 1]? = some p) (hq : l[k]? = some q) (hg : goodB p = true) : maySp (aheadS l (k + 1)) (l.drop (k + 1)) = (apartB q p && maySp (aheadS l (k + 1 + 1)) (l.drop (k + 1 + 1))) := by
  rw [mayS_drop h, hg, aheadS_succ h, aheadS_succ hq, Bool.and_true]

set_option maxHeartbeats 2000000 in
theorem mayR_any (A : Option Addr) (n cap : Nat) (l : List (Int × Int × Int)) (w : World) (hv : SpS w A l) (hn : l.length = n) (hw : wfS l) (hb : n ≤ 1000) :
    Calls Tryd.prog 33 #[.slice A n cap] w fun e w' => e = .returned (.bool (maySp zS l)) ∧ Ext w w' := by
  replace hn := Lib.hid hn
  replace hv := Lib.hid hv
  replace hw := Lib.hid hw
  go_enter Tryd.func33, Tryd.ntmps33
  go_wp2
  go_loopw [7] (fun i W => ∃ (k : Nat), k ≤ n ∧ i = .int .i64 k ∧ Hid (maySp zS l = maySp (aheadS l k) (l.drop k)) ∧ Ext w W) (fun i _ => n - (intOf i).toNat)
  case atStart => exact ⟨0, Nat.zero_le _, rfl, Lib.hid (by simp [aheadS]), Ext.refl _⟩
  case round =>
    obtain ⟨k, hk, rfl, hrel, hx⟩ := hrel
    by_cases hlt : k < n
    · obtain ⟨b, o, x, y, z, rfl, hp, d0, d1, d2⟩ := hv.out.at (k := k) (by rw [hn.out]; exact hlt)
      have hwf := wfS_at hw.out hp
      replace hp := Lib.hid hp
      have c0 := hx.keep d0
      have c1 := hx.keep d1
      have c2 := hx.keep d2
      have hcall := Lib.hid (fun W => empty_any x y z W hwf.1)
      go_wp2_with fail
      have q0 : (wr.alloc (Obj.cells #[Value.int IntKind.u32 x, Value.int IntKind.u32 y, Value.int IntKind.u32 z] 62)).cell? ⟨wr.heap.size, 0, none⟩ = some (Vu x) := by simp [go_sem]
      have q1 : (wr.alloc (Obj.cells #[Value.int IntKind.u32 x, Value.int IntKind.u32 y, Value.int IntKind.u32 z] 62)).cell? ⟨wr.heap.size, 1, none⟩ = some (Vu y) := by simp [go_sem]
      have q2 : (wr.alloc (Obj.cells #[Value.int IntKind.u32 x, Value.int IntKind.u32 y, Value.int IntKind.u32 z] 62)).cell? ⟨wr.heap.size, 2, none⟩ = some (Vu z) := by simp [go_sem]
      have x1 : Ext wr (wr.alloc (Obj.cells #[Value.int IntKind.u32 x, Value.int IntKind.u32 y, Value.int IntKind.u32 z] 62)) := (Ext.refl _).alloc _
      clear c0 c1 c2
      generalize wr.alloc (Obj.cells #[Value.int IntKind.u32 x, Value.int IntKind.u32 y, Value.int IntKind.u32 z] 62) = W1 at *
      generalize wr.heap.size = py at *
      have hx1 := hx.trans x1
      clear x1
      have s0 := cell_regrown q0
      have s1 := cell_regrown q1
      have s2 := cell_regrown q2
      clear q0 q1 q2
      cases hgo : goodB (x, y, z) with
      | false =>
        rw [hgo, Bool.not_false] at hcall
        have hd := Lib.hid (mayS_bad hp.out hgo (aheadS l k))
        clear hgo
        refine wp_region_quiet_below (by kernel_rfl) (by kernel_rfl) ?_
        repeat go_big_quiet_step ((with_reducible exact Calls.in_regrown (hcall.out _)))
        refine wpQuiet_nil ?_
        intro _ hw'
        obtain ⟨⟨dq, osq⟩, hw''⟩ := hw'
        subst hw''
        go_wp2
        go_ret
        exact ⟨ret_bool (a := false) (by rw [hrel.out, hd.out]), hx1.trans (Ext.regrown _ _ _)⟩
      | true =>
        rw [hgo, Bool.not_true] at hcall
        cases k with
        | zero =>
          have hd := Lib.hid (mayS_first hp.out hgo)
          clear hgo
          refine wp_region_quiet_below (by kernel_rfl) (by kernel_rfl) ?_
          repeat go_big_quiet_step ((with_reducible exact Calls.in_regrown (hcall.out _)))
          refine wpQuiet_nil ?_
          intro _ hw'
          obtain ⟨⟨dq, osq⟩, hw''⟩ := hw'
          subst hw''
          go_wp2
          go_roundw
          case rel => exact ⟨0 + 1, by omega, by go_num, Lib.hid (by rw [hrel.out, hd.out]), hx1.trans (Ext.regrown _ _ _)⟩
          case measure => simp [intOf]; omega
        | succ k =>
          obtain ⟨b', o', x', y', z', e, hq, c0', c1', c2'⟩ := hv.out.at (k := k) (by rw [hn.out]; omega)
          injection e with e
          injection e with e1 e2
          subst e1
          subst e2
          have r0 := cell_regrown (hx1.keep c0')
          have r1 := cell_regrown (hx1.keep c1')
          have r2 := cell_regrown (hx1.keep c2')
          clear c0' c1' c2'
          have hsub : IntKind.i64.wrap (((k + 1 : Nat) : Int) - 1) = (k : Int) := by rw [show (((k + 1 : Nat) : Int) - 1) = (k : Int) by omega]; exact IntWalk.i64_in _ (by omega)
          have hi1 : (0 : Int) ≤ (k : Int) := by omega
          have hi2 : (k : Int) < (n : Int) := by omega
          have hg : decide ((0 : Int) < ((k + 1 : Nat) : Int)) = true := by simp
          have hg2 : decide ((0 : Int) < (k : Int) + 1) = true := by rw [decide_eq_true_eq]; omega
          have hd := Lib.hid (mayS_next hp.out hq hgo)
          have hcall2 := Lib.hid (fun W => apart_any x' y' z' x y z W)
          clear hgo
          cases hap : apartB (x', y', z') (x, y, z) with
          | true =>
            rw [hap] at hcall2 hd
            clear hap hq
            refine wp_region_quiet_below (by kernel_rfl) (by kernel_rfl) ?_
            repeat go_big_quiet_step ((first | with_reducible exact Calls.in_regrown (hcall.out _) | with_reducible exact Calls.in_regrown (hcall2.out _)))
            refine wpQuiet_nil ?_
            intro _ hw'
            obtain ⟨⟨dq, osq⟩, hw''⟩ := hw'
            subst hw''
            go_wp2
            go_roundw
            case rel => exact ⟨k + 1 + 1, by omega, by go_num, Lib.hid (by rw [hrel.out, hd.out, Bool.true_and]), hx1.trans (Ext.regrown _ _ _)⟩
            case measure => simp [intOf]; omega
          | false =>
            rw [hap] at hcall2 hd
            clear hap hq
            refine wp_region_quiet_below (by kernel_rfl) (by kernel_rfl) ?_
            repeat go_big_quiet_step ((first | with_reducible exact Calls.in_regrown (hcall.out _) | with_reducible exact Calls.in_regrown (hcall2.out _)))
            refine wpQuiet_nil ?_
            intro _ hw'
            obtain ⟨⟨dq, osq⟩, hw''⟩ := hw'
            subst hw''
            go_wp2
            go_ret
            exact ⟨ret_bool (a := false) (by rw [hrel.out, hd.out, Bool.false_and]), hx1.trans (Ext.regrown _ _ _)⟩
    · have hz := Lib.hid (show maySp (aheadS l k) (l.drop k) = true from mayS_end (by rw [hn.out]; omega) _)
      go_wp2
      go_ret
      exact ⟨ret_bool (a := true) (by rw [hrel.out, hz.out]), hx⟩

end Go.Proofs.YthpminlfbjedpaaDoor

namespace Go.Proofs.YthpminlfbjedpaaDoor
open Go.ChangeShapes Go.WideShapes Go.ChangeAt Go.RowKit Go.Sort
set_option linter.unusedVariables false
attribute [local go_sem] World.cell?_alloc_some

/-- may each one be, and stand behind the one ahead of it -/
def chainR : Option Rn → List Rn → Bool
  | _, [] => true
  | none, r :: l => mayN r && chainR (some r) l
  | some p, r :: l => mayN r && (apartR p r && chainR (some r) l)
def prevR (rs : List Rn) : Nat → Option Rn
  | 0 => none
  | k + 1 => rs[k]?
theorem chain_some : ∀ (l : List Rn) (p : Rn), chainR (some p) l = (l.all mayN && sideB befR (p :: l) && sideB (fun r s => !onR r s) (p :: l))
  | [], p => rfl
  | r :: l, p => by
    rw [chainR, chain_some l r, List.all_cons, side_two, side_two, apartR]
    cases mayN r <;> cases befR p r <;> cases onR p r <;> simp
theorem chain_none (l : List Rn) : chainR none l = (l.all mayN && sideB befR l && sideB (fun r s => !onR r s) l) := by
  cases l with
  | nil => rfl
  | cons r l => rw [chainR, chain_some, List.all_cons]; simp [Bool.and_assoc]
theorem mayB_chain (rs : List Rn) (ds : List Sp) : mayB rs ds = (chainR none rs && maySp zS ds) := by rw [mayB_side, chain_none]
theorem prev_succ {rs : List Rn} {k : Nat} {r : Rn} (h : rs[k]? = some r) : prevR rs (k + 1) = some r := h
theorem chain_drop {rs : List Rn} {k : Nat} {r : Rn} (h : rs[k]? = some r) (p : Option Rn) : chainR p (rs.drop k) = chainR p (r :: rs.drop (k + 1)) := by
  obtain ⟨hk, e⟩ := List.getElem?_eq_some_iff.1 h
  rw [List.drop_eq_getElem_cons hk, e]
theorem chain_bad {rs : List Rn} {k : Nat} {r : Rn} (h : rs[k]? = some r) (hm : mayN r = false) (p : Option Rn) : chainR p (rs.drop k) = false := by
  rw [chain_drop h]
  cases p <;> rw [chainR, hm, Bool.false_and]
theorem chain_first {rs : List Rn} {r : Rn} (h : rs[0]? = some r) (hm : mayN r = true) : chainR (prevR rs 0) (rs.drop 0) = chainR (prevR rs (0 + 1)) (rs.drop (0 + 1)) := by
  rw [chain_drop h, prev_succ h]
  show chainR none _ = _
  rw [chainR, hm, Bool.true_and]
theorem chain_next {rs : List Rn} {k : Nat} {p r : Rn} (hp : rs[k]? = some p) (h : rs[k + 1]? = some r) (hm : mayN r = true) : chainR (prevR rs (k + 1)) (rs.drop (k + 1)) = (apartR p r && chainR (prevR rs (k + 1 + 1)) (rs.drop (k + 1 + 1))) := by
  rw [chain_drop h, prev_succ h, prev_succ hp, chainR, hm, Bool.true_and]
theorem chain_end {rs : List Rn} {k : Nat} (h : rs.length ≤ k) (p : Option Rn) : chainR p (rs.drop k) = true := by
  rw [List.drop_eq_nil_of_le h]
  cases p <;> rfl

set_option maxRecDepth 100000 in
set_option maxHeartbeats 4000000 in
theorem mayBat_any (A : Option Addr) (n c : Nat) (B : Option Addr) (m d : Nat) (rs : List Rn) (ds : List Sp) (w : World) (hT : Tabs w) (hv : RnS w A rs) (hn : rs.length = n) (hS : SpS w B ds) (hm : ds.length = m)
    (hw : ∀ r ∈ rs, wfR r ∧ r.t.length ≤ 200000) (hds : wfS ds) (hb : m ≤ 1000) (hbn : n ≤ 100000) :
    Calls Tryd.prog 13 #[batv A n c B m d] w fun e w' => e = .returned (.bool (mayB rs ds)) ∧ Ext w w' := by
  rw [mayB_chain]
  have hset := Lib.hid (fun W (hx : Ext w W) => mayR_any B m d ds W (hS.ext hx) hm hds hb)
  replace hn := Lib.hid hn
  replace hv := Lib.hid hv
  replace hw := Lib.hid hw
  replace hT := Lib.hid hT
  clear hS hm hds hb
  go_enter Tryd.func13, Tryd.ntmps13
  go_wp2
  have x0 : Ext w (w.alloc (.cells #[.slice A n c, .slice B m d] 25)) := (Ext.refl _).alloc _
  have a0 : (w.alloc (.cells #[.slice A n c, .slice B m d] 25)).cell? ⟨w.heap.size, 0, none⟩ = some (.slice A n c) := by simp [go_sem]
  have a1 : (w.alloc (.cells #[.slice A n c, .slice B m d] 25)).cell? ⟨w.heap.size, 1, none⟩ = some (.slice B m d) := by simp [go_sem]
  generalize w.alloc (.cells #[.slice A n c, .slice B m d] 25) = w0 at *
  generalize w.heap.size = pa at *
  go_loopw [8] (fun i W => ∃ (k : Nat), k ≤ n ∧ i = Vi k ∧ Hid (chainR none rs = chainR (prevR rs k) (rs.drop k)) ∧ Hid ((rs.take k).all mayN = true) ∧ Ext w0 W) (fun i _ => n - (intOf i).toNat)
  case atStart => exact ⟨0, Nat.zero_le _, rfl, Lib.hid (by simp [prevR]), Lib.hid (by simp), Ext.refl _⟩
  case round =>
    obtain ⟨k, hk, rfl, hrel, hall, hx⟩ := hrel
    by_cases hlt : k < n
    · obtain ⟨b, o, r, rfl, hp, dd⟩ := hv.out.at (k := k) (by rw [hn.out]; exact hlt)
      obtain ⟨hwr, hrt⟩ := hw.out r (List.mem_of_getElem? hp)
      have hwr' := hwr
      unfold wfR at hwr'
      obtain ⟨c0, c1, c2, c3, c4, c5, c6⟩ := dd.ext (x0.trans hx)
      have hcall := Lib.hid (fun W (hX : Ext w W) => may_any r W (hT.out.ext hX) hwr'.2.2.1 hwr'.2.2.2.1 hrt)
      have y0 := hx.keep a0
      go_wp2_with fail
      have q0 : (wr.alloc (Obj.cells #[.int .u32 r.c, .int .u32 r.k, .int .u32 r.lc, .int .u32 r.lk, .int .u32 r.rc, .int .u32 r.rk, .string ⟨r.t.toArray⟩] 49)).cell? ⟨wr.heap.size, 0, none⟩ = some (Vu r.c) := by simp [go_sem]
      have q1 : (wr.alloc (Obj.cells #[.int .u32 r.c, .int .u32 r.k, .int .u32 r.lc, .int .u32 r.lk, .int .u32 r.rc, .int .u32 r.rk, .string ⟨r.t.toArray⟩] 49)).cell? ⟨wr.heap.size, 1, none⟩ = some (Vu r.k) := by simp [go_sem]
      have q2 : (wr.alloc (Obj.cells #[.int .u32 r.c, .int .u32 r.k, .int .u32 r.lc, .int .u32 r.lk, .int .u32 r.rc, .int .u32 r.rk, .string ⟨r.t.toArray⟩] 49)).cell? ⟨wr.heap.size, 2, none⟩ = some (Vu r.lc) := by simp [go_sem]
      have q3 : (wr.alloc (Obj.cells #[.int .u32 r.c, .int .u32 r.k, .int .u32 r.lc, .int .u32 r.lk, .int .u32 r.rc, .int .u32 r.rk, .string ⟨r.t.toArray⟩] 49)).cell? ⟨wr.heap.size, 3, none⟩ = some (Vu r.lk) := by simp [go_sem]
      have q4 : (wr.alloc (Obj.cells #[.int .u32 r.c, .int .u32 r.k, .int .u32 r.lc, .int .u32 r.lk, .int .u32 r.rc, .int .u32 r.rk, .string ⟨r.t.toArray⟩] 49)).cell? ⟨wr.heap.size, 4, none⟩ = some (Vu r.rc) := by simp [go_sem]
      have q5 : (wr.alloc (Obj.cells #[.int .u32 r.c, .int .u32 r.k, .int .u32 r.lc, .int .u32 r.lk, .int .u32 r.rc, .int .u32 r.rk, .string ⟨r.t.toArray⟩] 49)).cell? ⟨wr.heap.size, 5, none⟩ = some (Vu r.rk) := by simp [go_sem]
      have q6 : (wr.alloc (Obj.cells #[.int .u32 r.c, .int .u32 r.k, .int .u32 r.lc, .int .u32 r.lk, .int .u32 r.rc, .int .u32 r.rk, .string ⟨r.t.toArray⟩] 49)).cell? ⟨wr.heap.size, 6, none⟩ = some (.string ⟨r.t.toArray⟩) := by simp [go_sem]
      have x1 : Ext wr (wr.alloc (Obj.cells #[.int .u32 r.c, .int .u32 r.k, .int .u32 r.lc, .int .u32 r.lk, .int .u32 r.rc, .int .u32 r.rk, .string ⟨r.t.toArray⟩] 49)) := (Ext.refl _).alloc _
      clear c0 c1 c2 c3 c4 c5 c6
      generalize wr.alloc (Obj.cells #[.int .u32 r.c, .int .u32 r.k, .int .u32 r.lc, .int .u32 r.lk, .int .u32 r.rc, .int .u32 r.rk, .string ⟨r.t.toArray⟩] 49) = W1 at *
      generalize wr.heap.size = py at *
      have hx1 := hx.trans x1
      have hX1 := x0.trans hx1
      have y0' := cell_regrown (x1.keep y0)
      clear x1 y0
      have s0 := cell_regrown q0
      have s1 := cell_regrown q1
      have s2 := cell_regrown q2
      have s3 := cell_regrown q3
      have s4 := cell_regrown q4
      have s5 := cell_regrown q5
      have s6 := cell_regrown q6
      clear q0 q1 q2 q3 q4 q5 q6
      cases hgo : mayN r with
      | false =>
        rw [hgo] at hcall
        have hd := Lib.hid (chain_bad hp hgo (prevR rs k))
        clear hgo hp dd
        refine wp_region_quiet_below (by kernel_rfl) (by kernel_rfl) ?_
        repeat go_big_quiet_step ((with_reducible exact Calls.in_regrown (hcall.out _ (hX1.trans (Ext.regrown _ _ _)))))
        refine wpQuiet_nil ?_
        intro _ hw'
        obtain ⟨⟨dq, osq⟩, hw''⟩ := hw'
        subst hw''
        go_wp2
        go_ret
        exact ⟨ret_bool (a := false) (by rw [hrel.out, hd.out, Bool.false_and]), hX1.trans (Ext.regrown _ _ _)⟩
      | true =>
        rw [hgo] at hcall
        have hall2 := Lib.hid (show (rs.take (k + 1)).all mayN = true by rw [small_take hp, hall.out, hgo]; rfl)
        cases k with
        | zero =>
          have hd := Lib.hid (chain_first hp hgo)
          clear hgo hp dd
          refine wp_region_quiet_below (by kernel_rfl) (by kernel_rfl) ?_
          repeat go_big_quiet_step ((with_reducible exact Calls.in_regrown (hcall.out _ (hX1.trans (Ext.regrown _ _ _)))))
          refine wpQuiet_nil ?_
          intro _ hw'
          obtain ⟨⟨dq, osq⟩, hw''⟩ := hw'
          subst hw''
          go_wp2
          go_roundw
          case rel => exact ⟨0 + 1, by omega, by go_num, Lib.hid (by rw [hrel.out, hd.out]), hall2, hx1.trans (Ext.regrown _ _ _)⟩
          case measure => simp [intOf]; omega
        | succ k =>
          obtain ⟨b', o', p, e, hq, ee⟩ := hv.out.at (k := k) (by rw [hn.out]; omega)
          injection e with e
          injection e with e1 e2
          subst e1
          subst e2
          obtain ⟨hwp, hpt⟩ := hw.out p (List.mem_of_getElem? hq)
          have hmp : mayN p = true := by
            have := hall.out
            rw [small_take hq, Bool.and_eq_true] at this
            exact this.2
          obtain ⟨t0, t1, t2, t3, t4, t5, t6⟩ := ee.ext hX1
          have r0 := cell_regrown t0
          have r1 := cell_regrown t1
          have r2 := cell_regrown t2
          have r3 := cell_regrown t3
          have r4 := cell_regrown t4
          have r5 := cell_regrown t5
          have r6 := cell_regrown t6
          clear t0 t1 t2 t3 t4 t5 t6 ee dd
          have hsub : IntKind.i64.wrap (((k + 1 : Nat) : Int) - 1) = (k : Int) := by rw [show (((k + 1 : Nat) : Int) - 1) = (k : Int) by omega]; exact IntWalk.i64_in _ (by omega)
          have hi1 : (0 : Int) ≤ (k : Int) := by omega
          have hi2 : (k : Int) < (n : Int) := by omega
          have hg : decide ((0 : Int) < ((k + 1 : Nat) : Int)) = true := by simp
          have hg2 : decide ((0 : Int) < (k : Int) + 1) = true := by rw [decide_eq_true_eq]; omega
          have hd := Lib.hid (chain_next hq hp hgo)
          have hcall2 := Lib.hid (fun W => apart6_any p r W hmp hwp hwr hpt)
          clear hgo hmp hwp hwr hwr' hpt hrt
          cases hap : apartR p r with
          | true =>
            rw [hap] at hcall2 hd
            clear hap hq hp
            refine wp_region_quiet_below (by kernel_rfl) (by kernel_rfl) ?_
            repeat go_big_quiet_step ((first | with_reducible exact Calls.in_regrown (hcall.out _ (hX1.trans (Ext.regrown _ _ _))) | with_reducible exact Calls.in_regrown (hcall2.out _)))
            refine wpQuiet_nil ?_
            intro _ hw'
            obtain ⟨⟨dq, osq⟩, hw''⟩ := hw'
            subst hw''
            go_wp2
            go_roundw
            case rel => exact ⟨k + 1 + 1, by omega, by go_num, Lib.hid (by rw [hrel.out, hd.out, Bool.true_and]), hall2, hx1.trans (Ext.regrown _ _ _)⟩
            case measure => simp [intOf]; omega
          | false =>
            rw [hap] at hcall2 hd
            clear hap hq hp
            refine wp_region_quiet_below (by kernel_rfl) (by kernel_rfl) ?_
            repeat go_big_quiet_step ((first | with_reducible exact Calls.in_regrown (hcall.out _ (hX1.trans (Ext.regrown _ _ _))) | with_reducible exact Calls.in_regrown (hcall2.out _)))
            refine wpQuiet_nil ?_
            intro _ hw'
            obtain ⟨⟨dq, osq⟩, hw''⟩ := hw'
            subst hw''
            go_wp2
            go_ret
            exact ⟨ret_bool (a := false) (by rw [hrel.out, hd.out, Bool.false_and, Bool.false_and]), hX1.trans (Ext.regrown _ _ _)⟩
    · have hz := Lib.hid (show chainR none rs = true by rw [hrel.out]; exact chain_end (by rw [hn.out]; omega) _)
      have y1 := hx.keep a1
      have hs2 := Lib.hid (hset.out wr (x0.trans hx))
      go_wp2_with fail
      refine hs2.out.mono ?_
      rintro e w2 ⟨rfl, x2⟩
      go_wp2
      go_ret
      exact ⟨ret_bool (by rw [hz.out, Bool.true_and]), (x0.trans hx).trans x2⟩

end Go.Proofs.YthpminlfbjedpaaDoor

namespace Go.Proofs.YthpminlfbjedpaaDoor
open Go.ChangeShapes Go.WideShapes Go.ChangeAt Go.RowKit Go.Sort
set_option linter.unusedVariables false
attribute [local go_sem] World.cell?_alloc_some

abbrev nilB : Value := .agg #[.slice none 0 0, .slice none 0 0]
/-- what Get answers -/
def GetRet (w : World) (r : Option (List Rn × List Sp)) (e : Ending) (w' : World) : Prop := match r with
  | none => e = .returned (.tuple #[nilB, errv 2]) ∧ Ext w w'
  | some (rs, ds) => ∃ vr vd, e = .returned (.tuple #[.agg #[vr, vd], .nilIface]) ∧ OwnR w w' vr rs ∧ OwnS w w' vd ds ∧ Ext w w'

theorem text_le {rs : List Rn} {ds : List Sp} {r : Rn} (h : r ∈ rs) : r.t.length ≤ (batB rs ds).length := by
  obtain ⟨a, b, rfl⟩ := List.append_of_mem h
  simp only [batB, runB, putT, List.flatMap_append, List.flatMap_cons, List.length_append]
  omega
theorem wfS_of {ds : List Sp} (h : ∀ s ∈ ds, wfSp s) : wfS ds := h

section
variable {w : World} {A : Option Addr} {n c : Nat} {l : List UInt8}
/-- the world behind the result's and the reader's making -/
def getW (w : World) (A : Option Addr) (n c : Nat) : World := (w.alloc (.cells #[.slice none 0 0, .slice none 0 0] 25)).alloc (.cells #[.slice A n c, .int .i64 0, .bool false] 67)
theorem getW_ext (w : World) (A : Option Addr) (n c : Nat) : Ext w (getW w A n c) := ((Ext.refl _).alloc _).alloc _
theorem getW_q (w : World) (A : Option Addr) (n c : Nat) : (getW w A n c).heap[w.heap.size]? = some (.cells #[.slice none 0 0, .slice none 0 0] 25 (0, 0)) := by
  unfold getW
  rw [RowKit.Below.block ((Ext.refl (w.alloc (.cells #[.slice none 0 0, .slice none 0 0] 25))).alloc _) w.heap.size (by simp)]; exact heap_alloc_new _ _
theorem getW_p (w : World) (A : Option Addr) (n c : Nat) : RdS (getW w A n c) (w.heap.size + 1) A n c (0, false) := by
  unfold getW RdS
  have h := heap_alloc_new (w.alloc (.cells #[.slice none 0 0, .slice none 0 0] 25)) (.cells #[.slice A n c, .int .i64 0, .bool false] 67)
  rw [show (w.alloc (.cells #[.slice none 0 0, .slice none 0 0] 25)).heap.size = w.heap.size + 1 by simp] at h
  exact h

set_option maxRecDepth 100000 in
set_option maxHeartbeats 8000000 in
theorem getBat_any (hT : Tabs w) (hb : Bys w A l) (hl : l.length = n) (hc : n ≤ c) (hn : n ≤ 20000) (hbd : ∀ rs ds e, parse l = some (rs, ds, e) → e = n → ds.length ≤ 1000) :
    Calls Tryd.prog 10 #[.slice A n c] w (GetRet w (getBat l)) := by
  have hcall := Lib.hid (rdBat_any (w0 := w) (W := getW w A n c) (p := w.heap.size + 1) (getW_ext w A n c) (by omega) hb hl hc (by omega) hT (getW_p w A n c) (by simp))
  have hx1 := getW_ext w A n c
  have hq1 := getW_q w A n c
  have hp1 := getW_p w A n c
  have hg : decide ((20000 : Int) < (n : Int)) = false := by rw [decide_eq_false_iff_not]; omega
  have hans : getBat l = if (batS l (0, false)).2.2 = false ∧ (batS l (0, false)).2.1 = n ∧ mayB (batS l (0, false)).1.1 (batS l (0, false)).1.2 = true then some (batS l (0, false)).1 else none := by
    unfold getBat
    rw [if_neg (by omega)]
    cases hpa : parse l with
    | none => rw [if_neg (fun h => by rw [bat_none hpa] at h; cases h.1)]
    | some x =>
      obtain ⟨rs, ds, e⟩ := x
      rw [bat_some hpa]
      simp only [true_and, hl]
  have hfact : (batS l (0, false)).2.2 = false → (batS l (0, false)).2.1 ≤ n ∧ ((batS l (0, false)).2.1 = n → (∀ r ∈ (batS l (0, false)).1.1, wfR r ∧ r.t.length ≤ 200000) ∧ wfS (batS l (0, false)).1.2 ∧ (batS l (0, false)).1.2.length ≤ 1000 ∧ (batS l (0, false)).1.1.length ≤ 100000) := by
    intro hbad
    cases hpa : parse l with
    | none => rw [bat_none hpa] at hbad; cases hbad
    | some x =>
      obtain ⟨rs, ds, e⟩ := x
      rw [bat_some hpa]
      obtain ⟨h1, h2, h3, h4, h5⟩ := parse_back hpa
      simp only
      refine ⟨by omega, fun he => ⟨fun r hr => ⟨(h3 r hr).1, ?_⟩, wfS_of h4, hbd rs ds e hpa he, by omega⟩⟩
      have h6 := text_le (ds := ds) hr
      have h7 : (l.take e).length = (batB rs ds).length := by rw [h2]
      rw [List.length_take] at h7
      omega
  generalize getBat l = G at *
  generalize batS l (0, false) = X at *
  obtain ⟨⟨rs, ds⟩, at', bad⟩ := X
  simp only at hcall hfact hans
  replace hans := Lib.hid hans
  replace hT := Lib.hid hT
  replace hfact := Lib.hid hfact
  go_enter Tryd.func10, Tryd.ntmps10
  go_wp2_with fail
  refine hcall.out.mono ?_
  rintro e w2 ⟨vr, vd, rfl, or, od, fr, fd, s2, g2⟩
  have hE2 : Ext w w2 := RX.down hx1 (by omega) g2
  have hq2 := g2.blk hq1 (by omega)
  obtain ⟨Ar, cr, hvr, hcr, hRr⟩ := OwnR.open or
  obtain ⟨Ad, cd, hvd, hSd⟩ := SpS.own od
  subst hvr
  subst hvd
  have x3 : Ext w2 (w2.alloc (.cells #[.slice Ar rs.length cr, .slice Ad ds.length cd] 25)) := (Ext.refl _).alloc _
  have hq3 : (w2.alloc (.cells #[.slice Ar rs.length cr, .slice Ad ds.length cd] 25)).heap[w.heap.size]? = some (.cells #[.slice none 0 0, .slice none 0 0] 25 (0, 0)) := by
    rw [RowKit.Below.block x3 _ (Array.getElem?_eq_some_iff.1 hq2).1]; exact hq2
  have s3 := s2.ext x3
  have hx3 : (w2.alloc (.cells #[.slice Ar rs.length cr, .slice Ad ds.length cd] 25)).heap[w2.heap.size]? = some (.cells #[.slice Ar rs.length cr, .slice Ad ds.length cd] 25 (0, 0)) := heap_alloc_new _ _
  have or3 := or.ext x3
  have od3 := od.ext x3
  have hE3 := hE2.trans x3
  have hlt3 : w.heap.size < w2.heap.size := (Array.getElem?_eq_some_iff.1 hq2).1
  obtain ⟨d0, d1, d2, _, _⟩ := s3.cells
  obtain ⟨y0, y1, _, _⟩ := blk2 hx3
  obtain ⟨z0, z1, f0, f1⟩ := blk2 hq3
  obtain ⟨z0', z1', f0', f1'⟩ := blk2 hq2
  simp only at d1 d2
  clear hcall g2 hx3 hq1 hp1 hx1 or od
  have errE : ∀ (Z : World) (hZ : Ext w Z) (hz : Z.heap[w.heap.size]? = some (.cells #[.slice none 0 0, .slice none 0 0] 25 (0, 0))),
      Ext w ((Z.setCell ⟨w.heap.size, 0, none⟩ (.slice none 0 0)).setCell ⟨w.heap.size, 1, none⟩ (.slice none 0 0)) ∧ ((Z.setCell ⟨w.heap.size, 0, none⟩ (.slice none 0 0)).setCell ⟨w.heap.size, 1, none⟩ (.slice none 0 0)).heap[w.heap.size]? = some (.cells #[.slice none 0 0, .slice none 0 0] 25 (0, 0)) := fun Z hZ hz =>
    ⟨(hZ.setCell (Nat.le_refl _) _).setCell (Nat.le_refl _) _, heap_setCell_same _ _ 1 _ _ _ (heap_setCell_same _ _ 0 _ _ _ hz)⟩
  have errA : ∀ (Z : World) (o : Obj) (hZ : Ext w Z) (hz : Z.heap[w.heap.size]? = some (.cells #[.slice none 0 0, .slice none 0 0] 25 (0, 0))),
      Ext w (((Z.setCell ⟨w.heap.size, 0, none⟩ (.slice none 0 0)).setCell ⟨w.heap.size, 1, none⟩ (.slice none 0 0)).alloc o) ∧ (((Z.setCell ⟨w.heap.size, 0, none⟩ (.slice none 0 0)).setCell ⟨w.heap.size, 1, none⟩ (.slice none 0 0)).alloc o).heap[w.heap.size]? = some (.cells #[.slice none 0 0, .slice none 0 0] 25 (0, 0)) := fun Z o hZ hz => by
    obtain ⟨h1, h2⟩ := errE Z hZ hz
    exact ⟨h1.alloc o, by rw [RowKit.Below.block ((Ext.refl _).alloc o) _ (Array.getElem?_eq_some_iff.1 h2).1]; exact h2⟩
  replace errE := Lib.hid errE
  replace errA := Lib.hid errA
  have hpw : w.heap.size + 1 < w2.heap.size := s2.lt
  cases bad with
  | true =>
    have hG := Lib.hid (show G = none by rw [hans.out, if_neg (by simp)])
    obtain ⟨hZ, hz⟩ := errA.out w2 (.cells #[.slice Ar rs.length cr, .slice Ad ds.length cd] 25) hE2 hq2
    obtain ⟨u0, u1, _, _⟩ := blk2 hz
    replace hZ := Lib.hid hZ
    clear hans hfact errE errA hz hq3 hq2 or3 od3 s2 s3
    go_wp2
    rw [hG.out]
    exact bodyPost_ret (v := .tuple #[nilB, errv 2]) (by simp [results, Tryd.results10, go_sem, errv, u0, u1]) rfl ⟨rfl, hZ.out⟩
  | false =>
    obtain ⟨hle, hok⟩ := hfact.out rfl
    by_cases hlt : at' < n
    · have hG := Lib.hid (show G = none by rw [hans.out, if_neg (fun h => by omega)])
      have hg2 : decide ((at' : Int) < (n : Int)) = true := by rw [decide_eq_true_eq]; omega
      obtain ⟨hZ, hz⟩ := errA.out w2 (.cells #[.slice Ar rs.length cr, .slice Ad ds.length cd] 25) hE2 hq2
      obtain ⟨u0, u1, _, _⟩ := blk2 hz
      replace hZ := Lib.hid hZ
      clear hans hfact errE errA hz hq3 hq2 or3 od3 s2 s3
      go_wp2
      rw [hG.out]
      exact bodyPost_ret (v := .tuple #[nilB, errv 2]) (by simp [results, Tryd.results10, go_sem, errv, u0, u1]) rfl ⟨rfl, hZ.out⟩
    · have hat : at' = n := by omega
      subst hat
      obtain ⟨hwr, hwd, hdl, hrl⟩ := hok rfl
      have hg2 : decide ((at' : Int) < (at' : Int)) = false := by simp
      have hmay := Lib.hid (mayBat_any Ar rs.length cr Ad ds.length cd rs ds (w2.alloc (.cells #[.slice Ar rs.length cr, .slice Ad ds.length cd] 25)) (hT.out.ext hE3) (hRr.ext x3) rfl (hSd.ext x3) rfl hwr hwd hdl hrl)
      replace or3 := Lib.hid or3
      replace od3 := Lib.hid od3
      replace hq3 := Lib.hid hq3
      clear hwr hwd hfact hok
      cases hmb : mayB rs ds with
      | false =>
        rw [hmb] at hmay
        have hG := Lib.hid (show G = none by rw [hans.out, if_neg (fun h => by rw [hmb] at h; cases h.2.2)])
        clear hans
        go_wp2_with fail
        refine hmay.out.mono ?_
        rintro e w4 ⟨rfl, x4⟩
        have hq4 : w4.heap[w.heap.size]? = some (.cells #[.slice none 0 0, .slice none 0 0] 25 (0, 0)) := by
          rw [RowKit.Below.block x4 _ (Array.getElem?_eq_some_iff.1 hq3.out).1]; exact hq3.out
        obtain ⟨_, _, f0, f1⟩ := blk2 hq4
        obtain ⟨z0, z1, _, _⟩ := blk2 hq4
        obtain ⟨hZ, hz⟩ := errE.out _ (hE3.trans x4) hq4
        obtain ⟨u0, u1, _, _⟩ := blk2 hz
        replace hZ := Lib.hid hZ
        clear errE hz hq4
        go_wp2
        rw [hG.out]
        exact bodyPost_ret (v := .tuple #[nilB, errv 2]) (by simp [results, Tryd.results10, go_sem, errv, u0, u1]) rfl ⟨rfl, hZ.out⟩
      | true =>
        rw [hmb] at hmay
        have hG := Lib.hid (show G = some (rs, ds) by rw [hans.out, if_pos ⟨rfl, rfl, hmb⟩])
        clear hans
        go_wp2_with fail
        refine hmay.out.mono ?_
        rintro e w4 ⟨rfl, x4⟩
        have hq4 : w4.heap[w.heap.size]? = some (.cells #[.slice none 0 0, .slice none 0 0] 25 (0, 0)) := by
          rw [RowKit.Below.block x4 _ (Array.getElem?_eq_some_iff.1 hq3.out).1]; exact hq3.out
        obtain ⟨z0, z1, f0, f1⟩ := blk2 hq4
        have v0 := x4.keep y0
        have v1 := x4.keep y1
        have hz := heap_setCell_same _ _ 1 _ _ (.slice Ad ds.length cd) (heap_setCell_same _ _ 0 _ _ (.slice Ar rs.length cr) hq4)
        obtain ⟨u0, u1, _, _⟩ := blk2 (x := .slice Ar rs.length cr) (y := .slice Ad ds.length cd) hz
        have hsz : (getW w A at' c).heap.size = w.heap.size + 2 := by unfold getW; simp
        have nr := fr.ne (k := w.heap.size) (by omega)
        have nd := fd.ne (k := w.heap.size) (by omega)
        have or4 := ((or3.out.ext x4).kept (RX.set (RX.refl w.heap.size w4) 0 (.slice Ar rs.length cr) (.inr rfl)) nr).kept (RX.set (RX.refl w.heap.size _) 1 (.slice Ad ds.length cd) (.inr rfl)) nr
        have od4 := ((od3.out.ext x4).kept (RX.set (RX.refl w.heap.size w4) 0 (.slice Ar rs.length cr) (.inr rfl)) nd).kept (RX.set (RX.refl w.heap.size _) 1 (.slice Ad ds.length cd) (.inr rfl)) nd
        have hZ := Lib.hid (((hE3.trans x4).setCell (p := ⟨w.heap.size, 0, none⟩) (Nat.le_refl _) (.slice Ar rs.length cr)).setCell (p := ⟨w.heap.size, 1, none⟩) (Nat.le_refl _) (.slice Ad ds.length cd))
        replace or4 := Lib.hid or4
        replace od4 := Lib.hid od4
        clear hz hq4 errE errA or3 od3 s2 s3 nr nd fr fd
        go_wp2
        rw [hG.out]
        exact bodyPost_ret (v := .tuple #[.agg #[.slice Ar rs.length cr, .slice Ad ds.length cd], .nilIface]) (by simp [results, Tryd.results10, go_sem, u0, u1]) rfl ⟨_, _, rfl, or4.out, od4.out, hZ.out⟩
end

end Go.Proofs.YthpminlfbjedpaaDoor
