/-
  What opens slices of items and of runs that came in; no claim stands here.
-/
import Derived.Test.YtjhhohoeeacckaaDoorOpnS
import Derived.Test.YtjhhohoeeacckaaDoorNTog
namespace Go.Proofs.YtjhhohoeeacckaaDoor
open Go.ChangeShapes Go.WideShapes Go.ChangeAt Go.RowKit Go.Sort
set_option linter.unusedVariables false

instance : Inhabited It := ⟨⟨0, 0, 0, 0, 0, 0, 0⟩⟩
instance : Inhabited Rn := ⟨⟨0, 0, 0, 0, 0, 0, []⟩⟩
theorem bounds_i32 {a : Int} (h : (Lit.int .i32 a).wf = true) : -2147483648 ≤ a ∧ a ≤ 2147483647 := by
  simpa [Lit.wf, IntKind.min, IntKind.max, IntKind.signed, IntKind.bits] using h
theorem list7 {α : Type} {l : List α} (h : l.length = 7) : ∃ a b c d e f g, l = [a, b, c, d, e, f, g] := by
  match l, h with
  | [a, b, c, d, e, f, g], _ => exact ⟨a, b, c, d, e, f, g, rfl⟩
theorem list4 {α : Type} {l : List α} (h : l.length = 4) : ∃ a b c d, l = [a, b, c, d] := by
  match l, h with
  | [a, b, c, d], _ => exact ⟨a, b, c, d, rfl⟩

theorem item_cells {H : Type} {enc : TypeId × Value → H} {W : World} {base : Nat} {sp : Nat → Bool} {hd : Bool} (fuel : Nat) (cs : List Value) (x : DataW H × List MemPlace) (hl : cs.length = 7) (h : DataW.trod enc Tryd.prog W base sp hd fuel 39 cs = some x) :
    ∃ q, wfI q ∧ encI q = cs := by
  obtain ⟨v0, v1, v2, v3, v4, v5, v6, rfl⟩ := list7 hl
  obtain ⟨xs, k, hk, hxy, _, hxl, hfd⟩ := DataW.trod_struct Tryd.underlying39 h
  obtain ⟨y0, y1, y2, y3, rfl⟩ := list4 hxl
  have g0 := hfd 0 _ rfl
  have g1 := hfd 1 _ rfl
  have g2 := hfd 2 _ rfl
  have g3 := hfd 3 _ rfl
  have cu : Tryd.prog.cellsOf 21 = 1 := by kernel_rfl
  have ci : Tryd.prog.cellsOf 27 = 2 := by kernel_rfl
  simp [cu, ci] at g0 g1 g2 g3
  obtain ⟨a, b, rfl, rfl, a1, a2, b1, b2⟩ := id_cells g0
  obtain ⟨c, d, rfl, rfl, c1, c2, d1, d2⟩ := id_cells g1
  obtain ⟨e, f, rfl, rfl, e1, e2, f1, f2⟩ := id_cells g2
  obtain ⟨z, t0, _, wz⟩ := DataW.trod_int Tryd.underlying21 g3
  simp at t0
  subst t0
  have bz := bounds_i32 wz
  exact ⟨⟨a, b, c, d, e, f, z⟩, ⟨a1, a2, b1, b2, c1, c2, d1, d2, e1, e2, f1, f2, bz.1, bz.2⟩, rfl⟩
theorem run_cells {H : Type} {enc : TypeId × Value → H} {W : World} {base : Nat} {sp : Nat → Bool} {hd : Bool} (fuel : Nat) (cs : List Value) (x : DataW H × List MemPlace) (hl : cs.length = 7) (h : DataW.trod enc Tryd.prog W base sp hd fuel 29 cs = some x) :
    ∃ q, (wfR q ∧ q.t.length ≤ maxLen) ∧ encR q = cs := by
  obtain ⟨v0, v1, v2, v3, v4, v5, v6, rfl⟩ := list7 hl
  obtain ⟨xs, k, hk, hxy, _, hxl, hfd⟩ := DataW.trod_struct Tryd.underlying29 h
  obtain ⟨y0, y1, y2, y3, rfl⟩ := list4 hxl
  have g0 := hfd 0 _ rfl
  have g1 := hfd 1 _ rfl
  have g2 := hfd 2 _ rfl
  have g3 := hfd 3 _ rfl
  have cu : Tryd.prog.cellsOf 9 = 1 := by kernel_rfl
  have ci : Tryd.prog.cellsOf 27 = 2 := by kernel_rfl
  simp [cu, ci] at g0 g1 g2 g3
  obtain ⟨a, b, rfl, rfl, a1, a2, b1, b2⟩ := id_cells g0
  obtain ⟨c, d, rfl, rfl, c1, c2, d1, d2⟩ := id_cells g1
  obtain ⟨e, f, rfl, rfl, e1, e2, f1, f2⟩ := id_cells g2
  obtain ⟨z, t0, _, wz⟩ := DataW.trod_string Tryd.underlying9 g3
  simp at t0
  subst t0
  refine ⟨⟨a, b, c, d, e, f, z.data.toList⟩, ⟨⟨a1, a2, b1, b2, c1, c2, d1, d2, e1, e2, f1, f2⟩, ?_⟩, ?_⟩
  · simpa using wz
  · simp [encR]
theorem items_open {H : Type} {enc : TypeId × Value → H} {W : World} {base b0 : Nat} {sp : Nat → Bool} {hd : Bool} {r : Reach} {v : Value} {d : DataW H} {p : List MemPlace} (hv : Value.okWide Tryd.prog W r b0 23 v) (h : DataW.Trod enc Tryd.prog W base sp hd 23 v d p) :
    ∃ (A : Option Addr) (n cap : Nat) (l : List It), v = .slice A n cap ∧ l.length = n ∧ n ≤ cap ∧ n ≤ maxLen ∧ ItS W A l ∧ wfIs l :=
  structs_open encI_len (by omega) Tryd.underlying23 (by kernel_rfl) item_cells hv h
theorem runs_open {H : Type} {enc : TypeId × Value → H} {W : World} {base b0 : Nat} {sp : Nat → Bool} {hd : Bool} {r : Reach} {v : Value} {d : DataW H} {p : List MemPlace} (hv : Value.okWide Tryd.prog W r b0 22 v) (h : DataW.Trod enc Tryd.prog W base sp hd 22 v d p) :
    ∃ (A : Option Addr) (n cap : Nat) (l : List Rn), v = .slice A n cap ∧ l.length = n ∧ n ≤ cap ∧ n ≤ maxLen ∧ RnS W A l ∧ ∀ q ∈ l, wfR q ∧ q.t.length ≤ maxLen :=
  structs_open encR_len (by omega) Tryd.underlying22 (by kernel_rfl) run_cells hv h

end Go.Proofs.YtjhhohoeeacckaaDoor
