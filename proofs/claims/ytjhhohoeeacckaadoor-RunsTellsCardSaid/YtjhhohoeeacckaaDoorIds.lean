/-
  Contracts of the functions of ids, of cmp and of the reference's; no claim stands here.
-/
import Derived.Test.YtjhhohoeeacckaaDoorCmp
import Derived.Test.YtjhhohoeeacckaaDoorErr
namespace Go.Proofs.YtjhhohoeeacckaaDoor
open Go.ChangeShapes Go.WideShapes Go.ChangeAt Go.RowKit Go.Sort
set_option linter.unusedVariables false

theorem none_any (a b : Int) (w : World) : Calls Tryd.prog 26 #[idv a b] w fun e w' => e = .returned (.bool (a == 0)) ∧ Ext w w' := by
  go_enter Tryd.func26, Tryd.ntmps26
  go_wp2
  go_ret
  exact ⟨rfl, (Ext.refl _).alloc _⟩

/-- the same Id -/
def idEq (a b c d : Int) : Bool := decide (a = c ∧ b = d)

theorem id_eql (a b c d : Int) (W : World) : (binOp .eql 27 (idv a b) (idv c d)).run Tryd.prog W = .ok (.bool (idEq a b c d)) W := by
  by_cases h1 : a = c
  · by_cases h2 : b = d
    · simp [go_sem, idEq, h1, h2]
    · have h2' : (b == d) = false := by simpa using h2
      simp [go_sem, idEq, h1, h2, h2']
  · have h1' : (a == c) = false := by simpa using h1
    simp [go_sem, idEq, h1, h1']

def cmpId (a b c d : Int) : Int := if a = c then cmpI b d else cmpI a c

def befId (a b c d : Int) : Bool := decide (a < c ∨ a = c ∧ b < d)

theorem before_any (a b c d : Int) (w : World) : Calls Tryd.prog 20 #[idv a b, idv c d] w fun e w' => e = .returned (.bool (befId a b c d)) ∧ Ext w w' := by
  go_enter Tryd.func20, Tryd.ntmps20
  go_wp2
  all_goals go_ret
  all_goals refine ⟨?_, ((Ext.refl _).alloc _).alloc _⟩
  all_goals simp [befId, *]
  all_goals omega

def cmpRef (a b c d : Int) : Int := if befId a b c d then -1 else if befId c d a b then 1 else 0

/-- what After tells: the Id and the number of the error -/
def aftId (a b n l : Int) : Int × Int × Int := if a = 0 ∨ n < 0 then (0, 0, 1) else if b + n > l then (0, 0, 4) else (a, b + n, 0)

theorem after_any (a b n l : Int) (w : World) (hb0 : 0 ≤ b) (hb1 : b ≤ 4294967295) (hn0 : -9223372036854775808 ≤ n) (hn1 : n ≤ 9223372036854775807) (hl0 : 0 ≤ l) (hl1 : l ≤ 4294967295) :
    Calls Tryd.prog 17 #[idv a b, Vi n, Vu l] w fun e w' => e = .returned (.tuple #[idv (aftId a b n l).1 (aftId a b n l).2.1, errv (aftId a b n l).2.2]) ∧ Ext w w' := by
  by_cases h1 : a = 0 ∨ n < 0
  · have ht : aftId a b n l = (0, 0, 1) := by simp [aftId, h1]
    rw [ht]
    clear ht
    by_cases ha : a = 0
    · subst ha
      clear h1
      go_enter Tryd.func17, Tryd.ntmps17
      go_wp2_with fail
      refine (none_any _ _ _).mono ?_
      rintro e w1 ⟨rfl, hb⟩
      have hE : Ext w w1 := Ext.trans (((Ext.refl _).alloc _).alloc _) hb
      obtain ⟨hc, hf⟩ := hb.cells
      go_wp2
      exact bodyPost_ret (v := .tuple #[idv 0 0, errv 1]) (by simp [results, Tryd.results17, go_sem, hc, errv]) rfl ⟨rfl, (hE.setCell (by simp) _).setCell (by simp) _⟩
    · have hn : n < 0 := by omega
      have ha' : (a == 0) = false := by simpa using ha
      clear h1 ha
      go_enter Tryd.func17, Tryd.ntmps17
      go_wp2_with fail
      refine (none_any _ _ _).mono ?_
      rintro e w1 ⟨rfl, hb⟩
      have hE : Ext w w1 := Ext.trans (((Ext.refl _).alloc _).alloc _) hb
      obtain ⟨hc, hf⟩ := hb.cells
      go_wp2
      exact bodyPost_ret (v := .tuple #[idv 0 0, errv 1]) (by simp [results, Tryd.results17, go_sem, hc, errv]) rfl ⟨rfl, (hE.setCell (by simp) _).setCell (by simp) _⟩
  · have ha' : (a == 0) = false := by simp; omega
    have hn : 0 ≤ n := by omega
    by_cases h2 : b + n > l
    · have ht : aftId a b n l = (0, 0, 4) := by simp [aftId, h1, h2]
      rw [ht]
      clear ht h1
      go_enter Tryd.func17, Tryd.ntmps17
      go_wp2_with fail
      refine (none_any _ _ _).mono ?_
      rintro e w1 ⟨rfl, hb⟩
      have hE : Ext w w1 := Ext.trans (((Ext.refl _).alloc _).alloc _) hb
      obtain ⟨hc, hf⟩ := hb.cells
      go_wp2
      exact bodyPost_ret (v := .tuple #[idv 0 0, errv 4]) (by simp [results, Tryd.results17, go_sem, hc, errv]) rfl ⟨rfl, (hE.setCell (by simp) _).setCell (by simp) _⟩
    · have ht : aftId a b n l = (a, b + n, 0) := by simp [aftId, h1, h2]
      rw [ht]
      clear ht h1
      go_enter Tryd.func17, Tryd.ntmps17
      go_wp2_with fail
      refine (none_any _ _ _).mono ?_
      rintro e w1 ⟨rfl, hb⟩
      have hE : Ext w w1 := Ext.trans (((Ext.refl _).alloc _).alloc _) hb
      obtain ⟨hc, hf⟩ := hb.cells
      go_wp2
      exact bodyPost_ret (v := .tuple #[idv a (b + n), errv 0]) (by simp [results, Tryd.results17, go_sem, hc, errv]) rfl ⟨rfl, (hE.setCell (by simp) _).setCell (by simp) _⟩

theorem afterRef_any (a b n l : Int) (w : World) (hb0 : 0 ≤ b) (hb1 : b ≤ 4294967295) (hn0 : -9223372036854775808 ≤ n) (hn1 : n ≤ 9223372036854775807) (hl0 : 0 ≤ l) (hl1 : l ≤ 4294967295) :
    Calls Tryd.prog 30 #[idv a b, Vi n, Vu l] w fun e w' => e = .returned (.tuple #[idv (aftId a b n l).1 (aftId a b n l).2.1, Vi (aftId a b n l).2.2]) ∧ Ext w w' := by
  by_cases h1 : a = 0 ∨ n < 0
  · have ht : aftId a b n l = (0, 0, 1) := by simp [aftId, h1]
    rw [ht]
    clear ht
    by_cases ha : a = 0
    · subst ha
      clear h1
      go_enter Tryd.func30, Tryd.ntmps30
      go_wp2
      exact bodyPost_ret (v := .tuple #[idv 0 0, Vi 1]) (by simp [results, Tryd.results30, go_sem]) rfl ⟨rfl, ((Ext.refl _).alloc _).alloc _⟩
    · have hn : n < 0 := by omega
      have ha' : (a == 0) = false := by simpa using ha
      clear h1 ha
      go_enter Tryd.func30, Tryd.ntmps30
      go_wp2
      exact bodyPost_ret (v := .tuple #[idv 0 0, Vi 1]) (by simp [results, Tryd.results30, go_sem]) rfl ⟨rfl, ((Ext.refl _).alloc _).alloc _⟩
  · have ha' : (a == 0) = false := by simp; omega
    have hn : 0 ≤ n := by omega
    by_cases h2 : b + n > l
    · have ht : aftId a b n l = (0, 0, 4) := by simp [aftId, h1, h2]
      rw [ht]
      clear ht h1
      go_enter Tryd.func30, Tryd.ntmps30
      go_wp2
      all_goals exact bodyPost_ret (v := .tuple #[idv 0 0, Vi 4]) (by simp [results, Tryd.results30, go_sem]) rfl ⟨rfl, ((Ext.refl _).alloc _).alloc _⟩
    · have ht : aftId a b n l = (a, b + n, 0) := by simp [aftId, h1, h2]
      rw [ht]
      clear ht h1
      go_enter Tryd.func30, Tryd.ntmps30
      go_wp2
      all_goals exact bodyPost_ret (v := .tuple #[idv a (b + n), Vi 0]) (by simp [results, Tryd.results30, go_sem]) rfl ⟨rfl, ((Ext.refl _).alloc _).alloc _⟩

theorem after_nil {a b n l x y : Int} (w : World) (h : aftId a b n l = (x, y, 0)) (hb0 : 0 ≤ b) (hb1 : b ≤ 4294967295) (hn0 : -9223372036854775808 ≤ n) (hn1 : n ≤ 9223372036854775807) (hl0 : 0 ≤ l) (hl1 : l ≤ 4294967295) :
    Calls Tryd.prog 17 #[idv a b, Vi n, Vu l] w fun e w' => e = .returned (.tuple #[idv x y, .nilIface]) ∧ Ext w w' := by
  have := after_any a b n l w hb0 hb1 hn0 hn1 hl0 hl1
  rw [h] at this
  exact this
theorem after_err {a b n l x y c : Int} (w : World) (h : aftId a b n l = (x, y, c)) (hc : c ≠ 0) (hb0 : 0 ≤ b) (hb1 : b ≤ 4294967295) (hn0 : -9223372036854775808 ≤ n) (hn1 : n ≤ 9223372036854775807) (hl0 : 0 ≤ l) (hl1 : l ≤ 4294967295) :
    Calls Tryd.prog 17 #[idv a b, Vi n, Vu l] w fun e w' => e = .returned (.tuple #[idv x y, .iface 62 (.int .i64 c)]) ∧ Ext w w' := by
  have := after_any a b n l w hb0 hb1 hn0 hn1 hl0 hl1
  rw [h] at this
  simp only [errv, if_neg hc] at this
  exact this

theorem cellsId : Tryd.prog.cellsOf 27 = 2 := by kernel_rfl

/-- an Id, opened -/
theorem id_opens {H : Type} {enc : TypeId × Value → H} {W : World} {base b0 : Nat} {sp : Nat → Bool} {hd : Bool} {r : Reach} {v : Value} {d : DataW H} {p : List MemPlace} (hv : Value.okWide Tryd.prog W r b0 27 v) (h : DataW.Trod enc Tryd.prog W base sp hd 27 v d p) :
    ∃ a b : Int, v = idv a b ∧ d = .agg [.lit (.int .u32 a), .lit (.int .u32 b)] ∧ p = [] ∧ (Lit.int .u32 a).wf = true ∧ (Lit.int .u32 b).wf = true := by
  obtain ⟨c0, c1, y0, y1, m, rfl, rfl, rfl, hy0, hy1⟩ := Go.Joins.open_agg2 Tryd.underlying27 (by kernel_rfl) cellsId hv h
  obtain ⟨a, e0, rfl, wa⟩ := DataW.trod_int Tryd.underlying25 hy0
  obtain ⟨b, e1, rfl, wb⟩ := DataW.trod_int Tryd.underlying25 hy1
  simp at e0 e1
  subst e0 e1
  exact ⟨a, b, rfl, rfl, rfl, wa, wb⟩

end Go.Proofs.YtjhhohoeeacckaaDoor
