/-
  What opens a slice of structs that came in, of any kind; no claim stands here.
-/
import Derived.Test.YtfcoidpkhggnpaaMem
import Derived.Deep.SlicePairs
import Derived.Lay
import Derived.ChangeMaps5
namespace Go.Proofs.Ytfcoidpkhggnpaa
open Go.ChangeShapes Go.WideShapes Go.ChangeAt Go.RowKit Go.Sort
set_option linter.unusedVariables false

set_option maxRecDepth 100000 in
/-- a slice of structs, opened: enc the cells of one, s how many, good what is told of one -/
theorem structs_openW {α : Type} [Inhabited α] {en : α → List Value} {s : Nat} (hs : ∀ x, (en x).length = s) (h0 : 0 < s) {T E : TypeId} (hT : Try.prog.underlying T = some (.slice E)) (ce : Try.prog.cellsOf E = s) {good : α → Prop}
    {H : Type} {enc : TypeId × Value → H} {W : World} {base b0 : Nat} {sp : Nat → Bool} {hd : Bool} {r : Reach} {v : Value} {d : DataW H} {p : List MemPlace} (Pd : DataW H → Prop) (hPd : ∀ es ss, d = .slice es ss → ∀ y ∈ es, Pd y)
    (hel : ∀ (fuel : Nat) (cs : List Value) (x : DataW H × List MemPlace), cs.length = s → DataW.trod enc Try.prog W base sp hd fuel E cs = some x → Pd x.1 → ∃ q, good q ∧ en q = cs)
    (hv : Value.okWide Try.prog W r b0 T v) (h : DataW.Trod enc Try.prog W base sp hd T v d p) :
    ∃ (A : Option Addr) (n cap : Nat) (l : List α), v = .slice A n cap ∧ l.length = n ∧ n ≤ cap ∧ n ≤ maxLen ∧ Row W A (flat en l) ∧ ∀ x ∈ l, good x := by
  obtain ⟨a, len, cap, rfl⟩ := okWide_slice hT hv
  obtain ⟨fuel, hf⟩ := h
  have hf' : DataW.trod enc Try.prog W base sp hd fuel T [.slice a len cap] = some (d, p) := hf
  rcases Go.Deep.open_slice hT hf' with ⟨e, _⟩ | ⟨a', len', cap', m, n, D, Pl, e, _, hl, hm, hmm, hx, hi⟩
  · injection e with e
    injection e with e1 e2 e3
    subst e1
    subst e2
    subst e3
    exact ⟨_, _, _, [], rfl, rfl, Nat.le_refl _, by omega, Row.nil _ _, by simp⟩
  · injection e with e
    injection e with e1 e2 e3
    subst e1
    subst e2
    subst e3
    have hml : len ≤ m := by rw [hmm]; split <;> omega
    have hcell : ∀ i, i < len → ∃ q : α, good q ∧ ∀ j u, (en q)[j]? = some u → W.cell? (a'.add (i * s + j)) = some u := by
      intro i hil
      obtain ⟨cs', h1, h2⟩ := hi i (by omega)
      rw [ce] at h1
      obtain ⟨_, hlen, hc⟩ := World.cells?_some h1
      obtain ⟨q, hq, hqc⟩ := hel _ _ _ hlen h2 (hPd _ _ (Prod.mk.inj hx).1 _ (List.mem_map.2 ⟨i, List.mem_range.2 hil, rfl⟩))
      refine ⟨q, hq, fun j u hu => ?_⟩
      have hj : j < s := by
        rcases Nat.lt_or_ge j s with g | g
        · exact g
        · rw [List.getElem?_eq_none (by rw [hs]; exact g)] at hu; cases hu
      have e0 := hc j hj
      rw [Go.Deep.add_add] at e0
      rw [e0, ← hqc]
      exact hu
    obtain ⟨q, hq⟩ := Go.Deep.choose_lt hcell
    refine ⟨some a', len, cap, (List.range len).map q, rfl, by simp, hl, by omega, ?_, ?_⟩
    · intro hp
      have hlen : 0 < len := by
        rw [flat_len hs] at hp
        simp at hp
        rcases Nat.eq_zero_or_pos len with z | z
        · rw [z] at hp; simp at hp
        · exact z
      obtain ⟨u0, hu0⟩ : ∃ u, (en (q 0))[0]? = some u := ⟨_, List.getElem?_eq_getElem (by rw [hs]; exact h0)⟩
      have g0 := (hq 0 hlen).2 0 u0 hu0
      obtain ⟨b, o, spot⟩ := a'
      have hspot : spot = none := by simpa [Addr.add] using World.cell?_spot g0
      subst hspot
      refine ⟨b, o, rfl, fun j u hu => ?_⟩
      have hj : j < len * s := by
        rcases Nat.lt_or_ge j (len * s) with k | k
        · exact k
        · rw [List.getElem?_eq_none (by rw [flat_len hs]; simpa using k)] at hu; cases hu
      have hdiv : j / s < len := Nat.div_lt_of_lt_mul (by rw [Nat.mul_comm]; exact hj)
      have hget : ((List.range len).map q)[j / s]? = some (q (j / s)) := by
        rw [List.getElem?_map, List.getElem?_range hdiv]; rfl
      have ej : j = j / s * s + j % s := by rw [Nat.mul_comm]; exact (Nat.div_add_mod j s).symm
      rw [ej, flat_at hs hget (Nat.mod_lt _ h0)] at hu
      have := (hq (j / s) hdiv).2 (j % s) u hu
      rw [add_at] at this
      rw [ej]; exact this
    · intro x hx
      obtain ⟨i, hi', rfl⟩ := List.mem_map.1 hx
      exact (hq i (List.mem_range.1 hi')).1
theorem structs_open {α : Type} [Inhabited α] {en : α → List Value} {s : Nat} (hs : ∀ x, (en x).length = s) (h0 : 0 < s) {T E : TypeId} (hT : Try.prog.underlying T = some (.slice E)) (ce : Try.prog.cellsOf E = s) {good : α → Prop}
    {H : Type} {enc : TypeId × Value → H} {W : World} {base b0 : Nat} {sp : Nat → Bool} {hd : Bool} {r : Reach} {v : Value} {d : DataW H} {p : List MemPlace}
    (hel : ∀ (fuel : Nat) (cs : List Value) (x : DataW H × List MemPlace), cs.length = s → DataW.trod enc Try.prog W base sp hd fuel E cs = some x → ∃ q, good q ∧ en q = cs)
    (hv : Value.okWide Try.prog W r b0 T v) (h : DataW.Trod enc Try.prog W base sp hd T v d p) :
    ∃ (A : Option Addr) (n cap : Nat) (l : List α), v = .slice A n cap ∧ l.length = n ∧ n ≤ cap ∧ n ≤ maxLen ∧ Row W A (flat en l) ∧ ∀ x ∈ l, good x :=
  structs_openW hs h0 hT ce (fun _ => True) (fun _ _ _ _ _ => trivial) (fun f cs x h1 h2 _ => hel f cs x h1 h2) hv h

end Go.Proofs.Ytfcoidpkhggnpaa
