/-
  Several texts of this seat in one file, each in the namespace again; no claim stands here.
-/
import Derived.Deep.SlicePairs
import Derived.Lay
import Derived.ChangeMaps5
import Derived.Test.YtnocdfmmhnnbeaaXN
import Derived.Test.YtnocdfmmhnnbeaaXS
namespace Go.Proofs.Ytnocdfmmhnnbeaa
open Go.ChangeShapes Go.WideShapes Go.ChangeAt Go.RowKit Go.Sort
set_option linter.unusedVariables false
set_option linter.unusedSimpArgs false

set_option maxRecDepth 100000 in
/-- a slice of structs, opened: enc the cells of one, s how many, good what is told of one -/
theorem structs_open {α : Type} [Inhabited α] {en : α → List Value} {s : Nat} (hs : ∀ x, (en x).length = s) (h0 : 0 < s) {T E : TypeId} (hT : Try.prog.underlying T = some (.slice E)) (ce : Try.prog.cellsOf E = s) {good : α → Prop}
    {H : Type} {enc : TypeId × Value → H} {W : World} {base b0 : Nat} {sp : Nat → Bool} {hd : Bool} {r : Reach} {v : Value} {d : DataW H} {p : List MemPlace} 
    (hel : ∀ (fuel : Nat) (cs : List Value) (x : DataW H × List MemPlace), cs.length = s → DataW.trod enc Try.prog W base sp hd fuel E cs = some x → ∃ q, good q ∧ en q = cs)
    (hv : Value.okWide Try.prog W r b0 T v) (h : DataW.Trod enc Try.prog W base sp hd T v d p) :
    ∃ (A : Option Addr) (n cap : Nat) (l : List α), v = .slice A n cap ∧ l.length = n ∧ n ≤ cap ∧ n ≤ maxLen ∧ Row W A (flat en l) ∧ ∀ x ∈ l, good x := by
  obtain ⟨a, len, cap, rfl⟩ := okWide_slice hT hv
  obtain ⟨fuel, hf⟩ := h
  have hf' : DataW.trod enc Try.prog W base sp hd fuel T [.slice a len cap] = some (d, p) := hf
  rcases Go.Deep.open_slice hT hf' with ⟨e, _⟩ | ⟨a', len', cap', m, n, D, Pl, e, _, hl, hm, hmm, _, hi⟩
  · injection e with e
    injection e with e1 e2 e3
    subst e1
    subst e2
    subst e3
    exact ⟨_, _, _, [], rfl, rfl, Nat.le_refl _, by omega, Row.nil _ _, by simp⟩
  · injection e with e
    injection e with e1 e2 e3
    subst e1
    subst e2
    subst e3
    have hml : len ≤ m := by rw [hmm]; split <;> omega
    have hcell : ∀ i, i < len → ∃ q : α, good q ∧ ∀ j u, (en q)[j]? = some u → W.cell? (a'.add (i * s + j)) = some u := by
      intro i hil
      obtain ⟨cs', h1, h2⟩ := hi i (by omega)
      rw [ce] at h1
      obtain ⟨_, hlen, hc⟩ := World.cells?_some h1
      obtain ⟨q, hq, hqc⟩ := hel _ _ _ hlen h2
      refine ⟨q, hq, fun j u hu => ?_⟩
      have hj : j < s := by
        rcases Nat.lt_or_ge j s with g | g
        · exact g
        · rw [List.getElem?_eq_none (by rw [hs]; exact g)] at hu; cases hu
      have e0 := hc j hj
      rw [Go.Deep.add_add] at e0
      rw [e0, ← hqc]
      exact hu
    obtain ⟨q, hq⟩ := Go.Deep.choose_lt hcell
    refine ⟨some a', len, cap, (List.range len).map q, rfl, by simp, hl, by omega, ?_, ?_⟩
    · intro hp
      have hlen : 0 < len := by
        rw [flat_len hs] at hp
        simp at hp
        rcases Nat.eq_zero_or_pos len with z | z
        · rw [z] at hp; simp at hp
        · exact z
      obtain ⟨u0, hu0⟩ : ∃ u, (en (q 0))[0]? = some u := ⟨_, List.getElem?_eq_getElem (by rw [hs]; exact h0)⟩
      have g0 := (hq 0 hlen).2 0 u0 hu0
      obtain ⟨b, o, spot⟩ := a'
      have hspot : spot = none := by simpa [Addr.add] using World.cell?_spot g0
      subst hspot
      refine ⟨b, o, rfl, fun j u hu => ?_⟩
      have hj : j < len * s := by
        rcases Nat.lt_or_ge j (len * s) with k | k
        · exact k
        · rw [List.getElem?_eq_none (by rw [flat_len hs]; simpa using k)] at hu; cases hu
      have hdiv : j / s < len := Nat.div_lt_of_lt_mul (by rw [Nat.mul_comm]; exact hj)
      have hget : ((List.range len).map q)[j / s]? = some (q (j / s)) := by
        rw [List.getElem?_map, List.getElem?_range hdiv]; rfl
      have ej : j = j / s * s + j % s := by rw [Nat.mul_comm]; exact (Nat.div_add_mod j s).symm
      rw [ej, flat_at hs hget (Nat.mod_lt _ h0)] at hu
      have := (hq (j / s) hdiv).2 (j % s) u hu
      rw [add_at] at this
      rw [ej]; exact this
    · intro x hx
      obtain ⟨i, hi', rfl⟩ := List.mem_map.1 hx
      exact (hq i (List.mem_range.1 hi')).1

set_option maxRecDepth 100000 in
/-- an Id's cells, opened -/
theorem id_cells {H : Type} {enc : TypeId × Value → H} {W : World} {base : Nat} {sp : Nat → Bool} {hd : Bool} {fuel : Nat} {v0 v1 : Value} {x : DataW H × List MemPlace} (h : DataW.trod enc Try.prog W base sp hd fuel 25 [v0, v1] = some x) :
    ∃ a b : Int, v0 = Vu a ∧ v1 = Vu b ∧ 0 ≤ a ∧ a ≤ 4294967295 ∧ 0 ≤ b ∧ b ≤ 4294967295 := by
  obtain ⟨xs, k, hk, hxy, _, hxl, hfd⟩ := DataW.trod_struct Try.underlying25 h
  match xs, hxl with
  | [y0, y1], _ =>
    have g0 := hfd 0 _ rfl
    have g1 := hfd 1 _ rfl
    have cu : Try.prog.cellsOf 23 = 1 := by kernel_rfl
    simp [cu] at g0 g1
    obtain ⟨a, t0, _, wa⟩ := DataW.trod_int Try.underlying23 g0
    obtain ⟨b, t1, _, wb⟩ := DataW.trod_int Try.underlying23 g1
    simp at t0 t1
    have ba := bounds_u32 wa
    have bb := bounds_u32 wb
    exact ⟨a, b, t0, t1, ba.1, ba.2, bb.1, bb.2⟩

end Go.Proofs.Ytnocdfmmhnnbeaa

namespace Go.Proofs.Ytnocdfmmhnnbeaa
open Go.ChangeShapes Go.WideShapes Go.ChangeAt Go.RowKit Go.Sort
set_option linter.unusedVariables false
set_option linter.unusedSimpArgs false
attribute [local go_sem] World.cell?_alloc_some

theorem drop_atI {α : Type} {l : List α} {k : Nat} {p : α} (h : l[k]? = some p) : l.drop k = p :: l.drop (k + 1) := by
  obtain ⟨hk, e⟩ := List.getElem?_eq_some_iff.1 h
  rw [List.drop_eq_getElem_cons hk, e]
theorem tog_on {l : List It} {k : Nat} {x y : It} (hx : l[k]? = some x) (hy : l[k + 1]? = some y) : tog (l.drop k) = if onI x y then tog (l.drop (k + 1)) + 1 else 1 := by
  rw [drop_atI hx, tog, drop_atI hy]; rfl
theorem tog_last {l : List It} {k : Nat} {x : It} (hx : l[k]? = some x) (hl : l.length ≤ k + 1) : tog (l.drop k) = 1 := by
  rw [drop_atI hx, List.drop_eq_nil_of_le hl]; rfl
def wfIs (l : List It) : Prop := ∀ x ∈ l, wfI x
theorem wfIs.at {l : List It} (h : wfIs l) {k : Nat} {x : It} (hx : l[k]? = some x) : wfI x := h x (List.mem_of_getElem? hx)

/-- the cells of one, in whatever world has grown from this one -/
structure ItG (w : World) (b o : Nat) (x : It) : Prop where
  c0 : ∀ d os, (grow (redrawn w d) os).cell? ⟨b, o, none⟩ = some (Vu x.c)
  c1 : ∀ d os, (grow (redrawn w d) os).cell? ⟨b, o + 1, none⟩ = some (Vu x.k)
  c2 : ∀ d os, (grow (redrawn w d) os).cell? ⟨b, o + 2, none⟩ = some (Vu x.lc)
  c3 : ∀ d os, (grow (redrawn w d) os).cell? ⟨b, o + 3, none⟩ = some (Vu x.lk)
  c4 : ∀ d os, (grow (redrawn w d) os).cell? ⟨b, o + 4, none⟩ = some (Vu x.rc)
  c5 : ∀ d os, (grow (redrawn w d) os).cell? ⟨b, o + 5, none⟩ = some (Vu x.rk)
  c6 : ∀ d os, (grow (redrawn w d) os).cell? ⟨b, o + 6, none⟩ = some (.int .i32 x.ch)
theorem ItC.regrown {w : World} {b o : Nat} {x : It} (h : ItC w b o x) : ItG w b o x := ⟨cell_regrown h.c0, cell_regrown h.c1, cell_regrown h.c2, cell_regrown h.c3, cell_regrown h.c4, cell_regrown h.c5, cell_regrown h.c6⟩

end Go.Proofs.Ytnocdfmmhnnbeaa

namespace Go.Proofs.Ytnocdfmmhnnbeaa
open Go.ChangeShapes Go.WideShapes Go.ChangeAt Go.RowKit Go.Sort
set_option linter.unusedVariables false
set_option linter.unusedSimpArgs false

instance : Inhabited It := ⟨⟨0, 0, 0, 0, 0, 0, 0⟩⟩
instance : Inhabited Rn := ⟨⟨0, 0, 0, 0, 0, 0, []⟩⟩
theorem bounds_i32 {a : Int} (h : (Lit.int .i32 a).wf = true) : -2147483648 ≤ a ∧ a ≤ 2147483647 := by
  simpa [Lit.wf, IntKind.min, IntKind.max, IntKind.signed, IntKind.bits] using h
theorem list7 {α : Type} {l : List α} (h : l.length = 7) : ∃ a b c d e f g, l = [a, b, c, d, e, f, g] := by
  match l, h with
  | [a, b, c, d, e, f, g], _ => exact ⟨a, b, c, d, e, f, g, rfl⟩
theorem list4 {α : Type} {l : List α} (h : l.length = 4) : ∃ a b c d, l = [a, b, c, d] := by
  match l, h with
  | [a, b, c, d], _ => exact ⟨a, b, c, d, rfl⟩

set_option maxRecDepth 100000 in
theorem item_cells {H : Type} {enc : TypeId × Value → H} {W : World} {base : Nat} {sp : Nat → Bool} {hd : Bool} (fuel : Nat) (cs : List Value) (x : DataW H × List MemPlace) (hl : cs.length = 7) (h : DataW.trod enc Try.prog W base sp hd fuel 27 cs = some x) :
    ∃ q, wfI q ∧ encI q = cs := by
  obtain ⟨v0, v1, v2, v3, v4, v5, v6, rfl⟩ := list7 hl
  obtain ⟨xs, k, hk, hxy, _, hxl, hfd⟩ := DataW.trod_struct Try.underlying27 h
  obtain ⟨y0, y1, y2, y3, rfl⟩ := list4 hxl
  have g0 := hfd 0 _ rfl
  have g1 := hfd 1 _ rfl
  have g2 := hfd 2 _ rfl
  have g3 := hfd 3 _ rfl
  have cu : Try.prog.cellsOf 21 = 1 := by kernel_rfl
  have ci : Try.prog.cellsOf 25 = 2 := by kernel_rfl
  simp [cu, ci] at g0 g1 g2 g3
  obtain ⟨a, b, rfl, rfl, a1, a2, b1, b2⟩ := id_cells g0
  obtain ⟨c, d, rfl, rfl, c1, c2, d1, d2⟩ := id_cells g1
  obtain ⟨e, f, rfl, rfl, e1, e2, f1, f2⟩ := id_cells g2
  obtain ⟨z, t0, _, wz⟩ := DataW.trod_int Try.underlying21 g3
  simp at t0
  subst t0
  have bz := bounds_i32 wz
  exact ⟨⟨a, b, c, d, e, f, z⟩, ⟨a1, a2, b1, b2, c1, c2, d1, d2, e1, e2, f1, f2, bz.1, bz.2⟩, rfl⟩
set_option maxRecDepth 100000 in
theorem items_open {H : Type} {enc : TypeId × Value → H} {W : World} {base b0 : Nat} {sp : Nat → Bool} {hd : Bool} {r : Reach} {v : Value} {d : DataW H} {p : List MemPlace} (hv : Value.okWide Try.prog W r b0 22 v) (h : DataW.Trod enc Try.prog W base sp hd 22 v d p) :
    ∃ (A : Option Addr) (n cap : Nat) (l : List It), v = .slice A n cap ∧ l.length = n ∧ n ≤ cap ∧ n ≤ maxLen ∧ ItS W A l ∧ wfIs l :=
  structs_open encI_len (by omega) Try.underlying22 (by kernel_rfl) item_cells hv h
end Go.Proofs.Ytnocdfmmhnnbeaa
