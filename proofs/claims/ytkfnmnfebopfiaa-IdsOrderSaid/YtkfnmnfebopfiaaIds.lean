/-
  Contracts of the functions of ids, of cmp and of the reference's; no claim stands here.
-/
import Derived.Test.YtkfnmnfebopfiaaBase
namespace Go.Proofs.Ytkfnmnfebopfiaa
open Go.ChangeShapes Go.WideShapes Go.ChangeAt Go.RowKit Go.Sort
set_option linter.unusedVariables false

/-- cmp.isNaN at uint32 -/
theorem isNaN_any (a : Int) (w : World) : Calls Try.prog 14 #[Vu a] w fun e w' => e = .returned (.bool false) ∧ w = w' := by
  go_enter Try.func14, Try.ntmps14
  go_wp2
  go_ret
  exact ⟨by simp, rfl⟩

def cmpI (a b : Int) : Int := if a < b then -1 else if b < a then 1 else 0

theorem compare_any (a b : Int) (w : World) : Calls Try.prog 12 #[Vu a, Vu b] w fun e w' => e = .returned (Vi (cmpI a b)) ∧ w = w' := by
  go_enter Try.func12, Try.ntmps12
  go_wp2_with (go_at_call 14; refine (isNaN_any _ _).mono ?_; rintro e w' ⟨rfl, rfl⟩)
  all_goals go_ret
  all_goals refine ⟨?_, rfl⟩
  all_goals (refine ret_i64 ?_; unfold cmpI; (repeat' split) <;> omega)

theorem none_any (a b : Int) (w : World) : Calls Try.prog 10 #[idv a b] w fun e w' => e = .returned (.bool (a == 0)) ∧ Ext w w' := by
  go_enter Try.func10, Try.ntmps10
  go_wp2
  go_ret
  exact ⟨rfl, (Ext.refl _).alloc _⟩

/-- the same Id -/
def idEq (a b c d : Int) : Bool := decide (a = c ∧ b = d)

theorem id_eql (a b c d : Int) (W : World) : (binOp .eql 24 (idv a b) (idv c d)).run Try.prog W = .ok (.bool (idEq a b c d)) W := by
  by_cases h1 : a = c
  · by_cases h2 : b = d
    · simp [go_sem, idEq, h1, h2]
    · have h2' : (b == d) = false := by simpa using h2
      simp [go_sem, idEq, h1, h2, h2']
  · have h1' : (a == c) = false := by simpa using h1
    simp [go_sem, idEq, h1, h1']

def cmpId (a b c d : Int) : Int := if a = c then cmpI b d else cmpI a c

theorem cmp_any (a b c d : Int) (w : World) : Calls Try.prog 8 #[idv a b, idv c d] w fun e w' => e = .returned (Vi (cmpId a b c d)) ∧ Ext w w' := by
  by_cases h : a = c
  · subst h
    go_enter Try.func8, Try.ntmps8
    go_wp2_with (go_at_call 12; refine (compare_any _ _ _).mono ?_; rintro e w' ⟨rfl, rfl⟩)
    go_ret
    exact ⟨by simp [cmpId], ((Ext.refl _).alloc _).alloc _⟩
  · have h' : (a != c) = true := by simpa using h
    go_enter Try.func8, Try.ntmps8
    go_wp2_with (go_at_call 12; refine (compare_any _ _ _).mono ?_; rintro e w' ⟨rfl, rfl⟩)
    go_ret
    exact ⟨by simp [cmpId, h], ((Ext.refl _).alloc _).alloc _⟩

def befId (a b c d : Int) : Bool := decide (a < c ∨ a = c ∧ b < d)

theorem before_any (a b c d : Int) (w : World) : Calls Try.prog 13 #[idv a b, idv c d] w fun e w' => e = .returned (.bool (befId a b c d)) ∧ Ext w w' := by
  go_enter Try.func13, Try.ntmps13
  go_wp2
  all_goals go_ret
  all_goals refine ⟨?_, ((Ext.refl _).alloc _).alloc _⟩
  all_goals simp [befId, *]
  all_goals omega

def cmpRef (a b c d : Int) : Int := if befId a b c d then -1 else if befId c d a b then 1 else 0

theorem cmpRef_any (a b c d : Int) (w : World) : Calls Try.prog 9 #[idv a b, idv c d] w fun e w' => e = .returned (Vi (cmpRef a b c d)) ∧ Ext w w' := by
  go_enter Try.func9, Try.ntmps9
  go_wp2_with fail
  refine (before_any _ _ _ _ _).mono ?_
  rintro e w1 ⟨rfl, hb⟩
  obtain ⟨hc, hf⟩ := hb.cells
  go_wp2_with fail
  refine (before_any _ _ _ _ _).mono ?_
  rintro e w2 ⟨rfl, hb2⟩
  have hE : Ext w w2 := ((((Ext.refl _).alloc _).alloc _).trans hb).trans hb2
  cases h1 : befId a b c d <;> cases h2 : befId c d a b
  all_goals
    go_wp2
    go_ret
    exact ⟨by simp [cmpRef, h1, h2], hE⟩

/-- what After tells: the Id and the number of the error -/
def aftId (a b n l : Int) : Int × Int × Int := if a = 0 ∨ n < 0 then (0, 0, 1) else if b + n > l then (0, 0, 4) else (a, b + n, 0)
/-- an error that is a Code, 0 for none -/
def errv (c : Int) : Value := if c = 0 then .nilIface else .iface 38 (.int .i64 c)

theorem after_any (a b n l : Int) (w : World) (hb0 : 0 ≤ b) (hb1 : b ≤ 4294967295) (hn0 : -9223372036854775808 ≤ n) (hn1 : n ≤ 9223372036854775807) (hl0 : 0 ≤ l) (hl1 : l ≤ 4294967295) :
    Calls Try.prog 6 #[idv a b, Vi n, Vu l] w fun e w' => e = .returned (.tuple #[idv (aftId a b n l).1 (aftId a b n l).2.1, errv (aftId a b n l).2.2]) ∧ Ext w w' := by
  by_cases h1 : a = 0 ∨ n < 0
  · have ht : aftId a b n l = (0, 0, 1) := by simp [aftId, h1]
    rw [ht]
    clear ht
    by_cases ha : a = 0
    · subst ha
      clear h1
      go_enter Try.func6, Try.ntmps6
      go_wp2_with fail
      refine (none_any _ _ _).mono ?_
      rintro e w1 ⟨rfl, hb⟩
      have hE : Ext w w1 := Ext.trans (((Ext.refl _).alloc _).alloc _) hb
      obtain ⟨hc, hf⟩ := hb.cells
      go_wp2
      exact bodyPost_ret (v := .tuple #[idv 0 0, errv 1]) (by simp [results, Try.results6, go_sem, hc, errv]) rfl ⟨rfl, (hE.setCell (by simp) _).setCell (by simp) _⟩
    · have hn : n < 0 := by omega
      have ha' : (a == 0) = false := by simpa using ha
      clear h1 ha
      go_enter Try.func6, Try.ntmps6
      go_wp2_with fail
      refine (none_any _ _ _).mono ?_
      rintro e w1 ⟨rfl, hb⟩
      have hE : Ext w w1 := Ext.trans (((Ext.refl _).alloc _).alloc _) hb
      obtain ⟨hc, hf⟩ := hb.cells
      go_wp2
      exact bodyPost_ret (v := .tuple #[idv 0 0, errv 1]) (by simp [results, Try.results6, go_sem, hc, errv]) rfl ⟨rfl, (hE.setCell (by simp) _).setCell (by simp) _⟩
  · have ha' : (a == 0) = false := by simp; omega
    have hn : 0 ≤ n := by omega
    by_cases h2 : b + n > l
    · have ht : aftId a b n l = (0, 0, 4) := by simp [aftId, h1, h2]
      rw [ht]
      clear ht h1
      go_enter Try.func6, Try.ntmps6
      go_wp2_with fail
      refine (none_any _ _ _).mono ?_
      rintro e w1 ⟨rfl, hb⟩
      have hE : Ext w w1 := Ext.trans (((Ext.refl _).alloc _).alloc _) hb
      obtain ⟨hc, hf⟩ := hb.cells
      go_wp2
      exact bodyPost_ret (v := .tuple #[idv 0 0, errv 4]) (by simp [results, Try.results6, go_sem, hc, errv]) rfl ⟨rfl, (hE.setCell (by simp) _).setCell (by simp) _⟩
    · have ht : aftId a b n l = (a, b + n, 0) := by simp [aftId, h1, h2]
      rw [ht]
      clear ht h1
      go_enter Try.func6, Try.ntmps6
      go_wp2_with fail
      refine (none_any _ _ _).mono ?_
      rintro e w1 ⟨rfl, hb⟩
      have hE : Ext w w1 := Ext.trans (((Ext.refl _).alloc _).alloc _) hb
      obtain ⟨hc, hf⟩ := hb.cells
      go_wp2
      exact bodyPost_ret (v := .tuple #[idv a (b + n), errv 0]) (by simp [results, Try.results6, go_sem, hc, errv]) rfl ⟨rfl, (hE.setCell (by simp) _).setCell (by simp) _⟩

theorem afterRef_any (a b n l : Int) (w : World) (hb0 : 0 ≤ b) (hb1 : b ≤ 4294967295) (hn0 : -9223372036854775808 ≤ n) (hn1 : n ≤ 9223372036854775807) (hl0 : 0 ≤ l) (hl1 : l ≤ 4294967295) :
    Calls Try.prog 7 #[idv a b, Vi n, Vu l] w fun e w' => e = .returned (.tuple #[idv (aftId a b n l).1 (aftId a b n l).2.1, Vi (aftId a b n l).2.2]) ∧ Ext w w' := by
  by_cases h1 : a = 0 ∨ n < 0
  · have ht : aftId a b n l = (0, 0, 1) := by simp [aftId, h1]
    rw [ht]
    clear ht
    by_cases ha : a = 0
    · subst ha
      clear h1
      go_enter Try.func7, Try.ntmps7
      go_wp2
      exact bodyPost_ret (v := .tuple #[idv 0 0, Vi 1]) (by simp [results, Try.results7, go_sem]) rfl ⟨rfl, ((Ext.refl _).alloc _).alloc _⟩
    · have hn : n < 0 := by omega
      have ha' : (a == 0) = false := by simpa using ha
      clear h1 ha
      go_enter Try.func7, Try.ntmps7
      go_wp2
      exact bodyPost_ret (v := .tuple #[idv 0 0, Vi 1]) (by simp [results, Try.results7, go_sem]) rfl ⟨rfl, ((Ext.refl _).alloc _).alloc _⟩
  · have ha' : (a == 0) = false := by simp; omega
    have hn : 0 ≤ n := by omega
    by_cases h2 : b + n > l
    · have ht : aftId a b n l = (0, 0, 4) := by simp [aftId, h1, h2]
      rw [ht]
      clear ht h1
      go_enter Try.func7, Try.ntmps7
      go_wp2
      all_goals exact bodyPost_ret (v := .tuple #[idv 0 0, Vi 4]) (by simp [results, Try.results7, go_sem]) rfl ⟨rfl, ((Ext.refl _).alloc _).alloc _⟩
    · have ht : aftId a b n l = (a, b + n, 0) := by simp [aftId, h1, h2]
      rw [ht]
      clear ht h1
      go_enter Try.func7, Try.ntmps7
      go_wp2
      all_goals exact bodyPost_ret (v := .tuple #[idv a (b + n), Vi 0]) (by simp [results, Try.results7, go_sem]) rfl ⟨rfl, ((Ext.refl _).alloc _).alloc _⟩

theorem after_nil {a b n l x y : Int} (w : World) (h : aftId a b n l = (x, y, 0)) (hb0 : 0 ≤ b) (hb1 : b ≤ 4294967295) (hn0 : -9223372036854775808 ≤ n) (hn1 : n ≤ 9223372036854775807) (hl0 : 0 ≤ l) (hl1 : l ≤ 4294967295) :
    Calls Try.prog 6 #[idv a b, Vi n, Vu l] w fun e w' => e = .returned (.tuple #[idv x y, .nilIface]) ∧ Ext w w' := by
  have := after_any a b n l w hb0 hb1 hn0 hn1 hl0 hl1
  rw [h] at this
  exact this
theorem after_err {a b n l x y c : Int} (w : World) (h : aftId a b n l = (x, y, c)) (hc : c ≠ 0) (hb0 : 0 ≤ b) (hb1 : b ≤ 4294967295) (hn0 : -9223372036854775808 ≤ n) (hn1 : n ≤ 9223372036854775807) (hl0 : 0 ≤ l) (hl1 : l ≤ 4294967295) :
    Calls Try.prog 6 #[idv a b, Vi n, Vu l] w fun e w' => e = .returned (.tuple #[idv x y, .iface 38 (.int .i64 c)]) ∧ Ext w w' := by
  have := after_any a b n l w hb0 hb1 hn0 hn1 hl0 hl1
  rw [h] at this
  simp only [errv, if_neg hc] at this
  exact this

/-- two errors that are Codes are the same where their numbers are -/
theorem err_eql (c : Int) : ∀ (x : Int) (W : World), (binOp .eql 27 (.iface 38 (.int .i64 c)) (.iface 38 (.int .i64 x))).run Try.prog W = .ok (.bool (c == x)) W := by
  intro x W
  obtain ⟨i38, h1, h2⟩ : ∃ i, Try.prog.info? 38 = some i ∧ i.comparable = true := ⟨_, rfl, rfl⟩
  have deep : ∀ d : Nat, (Op.equalIn (d + 2) 27 (.iface 38 (.int .i64 c)) (.iface 38 (.int .i64 x))).run Try.prog W = .ok (c == x) W := fun d => by
    simp [Op.equalIn, run_underlying Try.underlying27, run_underlying Try.underlying38, typeInfo, h1, h2]
  simp only [binOp]
  simp [Op.equal, Op.maxDepth, deep 9998]

theorem code_zero (w : World) : Calls Try.prog 11 #[.nilIface] w fun e w' => e = .returned (Vi 0) ∧ w = w' := by
  go_enter Try.func11, Try.ntmps11
  go_wp2
  go_ret
  exact ⟨rfl, rfl⟩

theorem code_some (c : Int) (w : World) (h1 : 1 ≤ c) (h6 : c ≤ 6) : Calls Try.prog 11 #[.iface 38 (.int .i64 c)] w fun e w' => e = .returned (Vi c) ∧ w = w' := by
  have heq := err_eql c
  go_enter Try.func11, Try.ntmps11
  go_wp2
  go_loop [3] (fun i => ∃ k : Int, 1 ≤ k ∧ k ≤ c ∧ i = .int .i64 k) (fun i => (c - intOf i).toNat)
  case atStart => exact ⟨1, by omega, by omega, rfl⟩
  case round =>
    obtain ⟨k, hk1, hkc, rfl⟩ := hrel
    by_cases hlt : k = c
    · subst hlt
      go_wp2
      go_ret
      exact ⟨rfl, rfl⟩
    · have h1' : (c == k) = false := by simp; omega
      go_wp2
      go_round
      case rel => exact ⟨k + 1, by omega, by omega, rfl⟩
      case measure => simp [intOf]; omega

theorem code_any (c : Int) (w : World) (h0 : 0 ≤ c) (h6 : c ≤ 6) : Calls Try.prog 11 #[errv c] w fun e w' => e = .returned (Vi c) ∧ w = w' := by
  by_cases h : c = 0
  · subst h; exact code_zero w
  · simp only [errv, if_neg h]; exact code_some c w (by omega) h6

/-- the document's example -/
theorem up_any (w : World) : Calls Try.prog 5 #[] w fun e w' => e = .returned (.bool true) ∧ Ext w w' := by
  go_enter Try.func5, Try.ntmps5
  go_wp2_with fail
  refine (after_nil (x := 1) (y := 7) _ (by decide) (by omega) (by omega) (by omega) (by omega) (by omega) (by omega)).mono ?_
  rintro e w1 ⟨rfl, hb1⟩
  go_wp2_with fail
  refine (after_err (x := 0) (y := 0) (c := 4) _ (by decide) (by omega) (by omega) (by omega) (by omega) (by omega) (by omega) (by omega)).mono ?_
  rintro e w2 ⟨rfl, hb2⟩
  obtain ⟨hc2, hf2⟩ := hb2.cells
  have hz2 : w1.heap.size < w2.heap.size := by have := hb2.size; simp at this; omega
  have hE : Ext w w2 := (hb1.alloc _).trans hb2
  go_wp2_with fail
  refine (code_some 4 _ (by omega) (by omega)).mono ?_
  rintro e w3 ⟨rfl, rfl⟩
  go_wp2_with fail
  refine (cmp_any _ _ _ _ _).mono ?_
  rintro e w4 ⟨rfl, hb4⟩
  rw [show cmpId 0 0 1 7 = -1 from by decide]
  go_wp2
  go_ret
  exact ⟨rfl, (hE.alloc _).trans hb4⟩

theorem own : ownKnob Try.prog.godebug = Option.none := by kernel_rfl
theorem cells24 : Try.prog.cellsOf 24 = 2 := by kernel_rfl

/-- an Id, opened -/
theorem id_opens {H : Type} {enc : TypeId × Value → H} {W : World} {base b0 : Nat} {sp : Nat → Bool} {hd : Bool} {r : Reach} {v : Value} {d : DataW H} {p : List MemPlace} (hv : Value.okWide Try.prog W r b0 24 v) (h : DataW.Trod enc Try.prog W base sp hd 24 v d p) :
    ∃ a b : Int, v = idv a b ∧ d = .agg [.lit (.int .u32 a), .lit (.int .u32 b)] ∧ p = [] ∧ (Lit.int .u32 a).wf = true ∧ (Lit.int .u32 b).wf = true := by
  obtain ⟨c0, c1, y0, y1, m, rfl, rfl, rfl, hy0, hy1⟩ := Go.Joins.open_agg2 Try.underlying24 (by kernel_rfl) cells24 hv h
  obtain ⟨a, e0, rfl, wa⟩ := DataW.trod_int Try.underlying22 hy0
  obtain ⟨b, e1, rfl, wb⟩ := DataW.trod_int Try.underlying22 hy1
  simp at e0 e1
  subst e0 e1
  exact ⟨a, b, rfl, rfl, rfl, wa, wb⟩

theorem laid : laidOutB Try.prog = true := by kernel_rfl

theorem bounds_u32 {a : Int} (h : (Lit.int .u32 a).wf = true) : 0 ≤ a ∧ a ≤ 4294967295 := by
  simpa [Lit.wf, IntKind.min, IntKind.max, IntKind.signed, IntKind.bits] using h
theorem bounds_i64 {a : Int} (h : (Lit.int .i64 a).wf = true) : -9223372036854775808 ≤ a ∧ a ≤ 9223372036854775807 := by
  simpa [Lit.wf, IntKind.min, IntKind.max, IntKind.signed, IntKind.bits] using h

end Go.Proofs.Ytkfnmnfebopfiaa
