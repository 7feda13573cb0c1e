/-
  What opens slices of entries and of deeds that came in; no claim stands here.
-/
import Derived.Test.YtanknhalgoheeaaXMem
import Derived.Deep.SlicePairs
import Derived.Lay
import Derived.ChangeMaps5
namespace Go.Proofs.Ytanknhalgoheeaa
open Go.ChangeShapes Go.WideShapes Go.ChangeAt Go.RowKit Go.Sort
set_option linter.unusedVariables false

instance : Inhabited En := ⟨⟨0, 0, 0, false⟩⟩
theorem bounds_i32e {a : Int} (h : (Lit.int .i32 a).wf = true) : -2147483648 ≤ a ∧ a ≤ 2147483647 := by
  simpa [Lit.wf, IntKind.min, IntKind.max, IntKind.signed, IntKind.bits] using h
theorem list4e {α : Type} {l : List α} (h : l.length = 4) : ∃ a b c d, l = [a, b, c, d] := by
  match l, h with
  | [a, b, c, d], _ => exact ⟨a, b, c, d, rfl⟩
theorem list6e {α : Type} {l : List α} (h : l.length = 6) : ∃ a b c d e f, l = [a, b, c, d, e, f] := by
  match l, h with
  | [a, b, c, d, e, f], _ => exact ⟨a, b, c, d, e, f, rfl⟩
theorem list3e {α : Type} {l : List α} (h : l.length = 3) : ∃ a b c, l = [a, b, c] := by
  match l, h with
  | [a, b, c], _ => exact ⟨a, b, c, rfl⟩

set_option maxRecDepth 100000 in
theorem entry_cells {H : Type} {enc : TypeId × Value → H} {W : World} {base : Nat} {sp : Nat → Bool} {hd : Bool} (fuel : Nat) (cs : List Value) (x : DataW H × List MemPlace) (hl : cs.length = 4) (h : DataW.trod enc Try.prog W base sp hd fuel 38 cs = some x) :
    ∃ q, wfE q ∧ encE q = cs := by
  obtain ⟨v0, v1, v2, v3, rfl⟩ := list4e hl
  obtain ⟨xs, k, hk, hxy, _, hxl, hfd⟩ := DataW.trod_struct Try.underlying38 h
  obtain ⟨y0, y1, y2, rfl⟩ := list3e hxl
  have g0 := hfd 0 _ rfl
  have g1 := hfd 1 _ rfl
  have g2 := hfd 2 _ rfl
  have cu : Try.prog.cellsOf 21 = 1 := by kernel_rfl
  have cb : Try.prog.cellsOf 4 = 1 := by kernel_rfl
  have ci : Try.prog.cellsOf 36 = 2 := by kernel_rfl
  simp [cu, cb, ci] at g0 g1 g2
  obtain ⟨a, b, rfl, rfl, a1, a2, b1, b2⟩ := id_cells g0
  obtain ⟨z, t0, _, wz⟩ := DataW.trod_int Try.underlying21 g1
  obtain ⟨g, t1, _⟩ := DataW.trod_bool Try.underlying4 g2
  simp at t0 t1
  subst t0
  subst t1
  have bz := bounds_i32e wz
  exact ⟨⟨a, b, z, g⟩, ⟨a1, a2, b1, b2, bz.1, bz.2⟩, rfl⟩
set_option maxRecDepth 100000 in
theorem entries_open {H : Type} {enc : TypeId × Value → H} {W : World} {base b0 : Nat} {sp : Nat → Bool} {hd : Bool} {r : Reach} {v : Value} {d : DataW H} {p : List MemPlace} (hv : Value.okWide Try.prog W r b0 22 v) (h : DataW.Trod enc Try.prog W base sp hd 22 v d p) :
    ∃ (A : Option Addr) (n cap : Nat) (l : List En), v = .slice A n cap ∧ l.length = n ∧ n ≤ cap ∧ n ≤ maxLen ∧ EnS W A l ∧ ∀ x ∈ l, wfE x :=
  structs_open encE_len (by omega) Try.underlying22 (by kernel_rfl) entry_cells hv h

/-- a deed -/
structure Dd where
  what : Int
  at' : Int
  e : En
def wfD (x : Dd) : Prop := (-9223372036854775808 ≤ x.what ∧ x.what ≤ 9223372036854775807) ∧ (-9223372036854775808 ≤ x.at' ∧ x.at' ≤ 9223372036854775807) ∧ wfE x.e
def encD (x : Dd) : List Value := [Vi x.what, Vi x.at', Vu x.e.c, Vu x.e.k, .int .i32 x.e.ch, .bool x.e.g]
theorem encD_len (p : Dd) : (encD p).length = 6 := rfl
instance : Inhabited Dd := ⟨⟨0, 0, default⟩⟩
def DdS (w : World) (A : Option Addr) (l : List Dd) : Prop := Row w A (flat encD l)
theorem DdS.ext {w w' : World} {A : Option Addr} {l : List Dd} (h : DdS w A l) (hx : Ext w w') : DdS w' A l := Row.ext h hx
theorem DdS.at {w : World} {A : Option Addr} {l : List Dd} (h : DdS w A l) {k : Nat} (hk : k < l.length) : ∃ b o x, A = some ⟨b, o, none⟩ ∧ l[k]? = some x ∧ w.cell? ⟨b, o + k * 6, none⟩ = some (Vi x.what) ∧ w.cell? ⟨b, o + k * 6 + 1, none⟩ = some (Vi x.at') ∧
    w.cell? ⟨b, o + k * 6 + 2, none⟩ = some (Vu x.e.c) ∧ w.cell? ⟨b, o + k * 6 + 3, none⟩ = some (Vu x.e.k) ∧ w.cell? ⟨b, o + k * 6 + 4, none⟩ = some (.int .i32 x.e.ch) ∧ w.cell? ⟨b, o + k * 6 + 5, none⟩ = some (.bool x.e.g) := by
  obtain ⟨x, hp⟩ : ∃ p, l[k]? = some p := ⟨l[k], List.getElem?_eq_getElem hk⟩
  obtain ⟨b, o, e, hc⟩ := Row.at h encD_len hp (by omega)
  exact ⟨b, o, x, e, hp, hc 0 _ rfl, hc 1 _ rfl, hc 2 _ rfl, hc 3 _ rfl, hc 4 _ rfl, hc 5 _ rfl⟩

set_option maxRecDepth 100000 in
theorem deed_cells {H : Type} {enc : TypeId × Value → H} {W : World} {base : Nat} {sp : Nat → Bool} {hd : Bool} (fuel : Nat) (cs : List Value) (x : DataW H × List MemPlace) (hl : cs.length = 6) (h : DataW.trod enc Try.prog W base sp hd fuel 40 cs = some x) :
    ∃ q, wfD q ∧ encD q = cs := by
  obtain ⟨v0, v1, v2, v3, v4, v5, rfl⟩ := list6e hl
  obtain ⟨xs, k, hk, hxy, _, hxl, hfd⟩ := DataW.trod_struct Try.underlying40 h
  obtain ⟨y0, y1, y2, rfl⟩ := list3e hxl
  have g0 := hfd 0 _ rfl
  have g1 := hfd 1 _ rfl
  have g2 := hfd 2 _ rfl
  have cu : Try.prog.cellsOf 3 = 1 := by kernel_rfl
  have ce : Try.prog.cellsOf 38 = 4 := by kernel_rfl
  simp [cu, ce] at g0 g1 g2
  obtain ⟨a, t0, _, wa⟩ := DataW.trod_int Try.underlying3 g0
  obtain ⟨b, t1, _, wb⟩ := DataW.trod_int Try.underlying3 g1
  simp at t0 t1
  subst t0
  subst t1
  obtain ⟨q, hq, hqe⟩ := entry_cells _ _ _ rfl g2
  refine ⟨⟨a, b, q⟩, ⟨bounds_i64 wa, bounds_i64 wb, hq⟩, ?_⟩
  show Vi a :: Vi b :: encE q = _
  rw [hqe]
set_option maxRecDepth 100000 in
theorem deeds_open {H : Type} {enc : TypeId × Value → H} {W : World} {base b0 : Nat} {sp : Nat → Bool} {hd : Bool} {r : Reach} {v : Value} {d : DataW H} {p : List MemPlace} (hv : Value.okWide Try.prog W r b0 23 v) (h : DataW.Trod enc Try.prog W base sp hd 23 v d p) :
    ∃ (A : Option Addr) (n cap : Nat) (l : List Dd), v = .slice A n cap ∧ l.length = n ∧ n ≤ cap ∧ n ≤ maxLen ∧ DdS W A l ∧ ∀ x ∈ l, wfD x :=
  structs_open encD_len (by omega) Try.underlying23 (by kernel_rfl) deed_cells hv h

end Go.Proofs.Ytanknhalgoheeaa
