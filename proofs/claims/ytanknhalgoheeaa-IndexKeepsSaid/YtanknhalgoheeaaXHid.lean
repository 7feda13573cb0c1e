/-
  Rows of entries of the call's own: one entry is turned; a block that holds one entry; no claim stands here.
-/
import Derived.Test.YtanknhalgoheeaaXMem
import Derived.Test.YtanknhalgoheeaaGx
import Derived.Test.YtanknhalgoheeaaBSm
namespace Go.Proofs.Ytanknhalgoheeaa
open Go.ChangeShapes Go.WideShapes Go.ChangeAt Go.RowKit Go.Sort
set_option linter.unusedVariables false

theorem flat_set3 : ∀ (l : List En) (q : Nat) (x : En), l[q]? = some x → flat encE (l.set q { x with g := true }) = (flat encE l).set (q * 4 + 3) (.bool true)
  | [], q, x, h => by simp at h
  | y :: l, 0, x, h => by
    have e : y = x := by simpa using h
    subst e
    rw [List.set_cons_zero, flat_cons, flat_cons, List.set_append_left _ _ (by rw [encE_len]; omega)]
    rfl
  | y :: l, q + 1, x, h => by
    rw [List.set_cons_succ, flat_cons, flat_cons, List.set_append_right _ _ (by rw [encE_len]; omega), encE_len, show (q + 1) * 4 + 3 - 4 = q * 4 + 3 by omega]
    rw [flat_set3 l q x (by simpa using h)]
theorem OwnE.hide {w W : World} {g n c : Nat} {l : List En} {q : Nat} {x : En} (h : OwnE w W (.slice (some ⟨g, 0, none⟩) n c) l) (hx : l[q]? = some x) :
    OwnE w (W.setCell ⟨g, q * 4 + 3, none⟩ (.bool true)) (.slice (some ⟨g, 0, none⟩) n c) (l.set q { x with g := true }) ∧ W.grownBy (W.setCell ⟨g, q * 4 + 3, none⟩ (.bool true)) (some g) ∧ W.frozen? ⟨g, q * 4 + 3, none⟩ = false := by
  unfold OwnE OwnG at h
  have hl : n = l.length := by
    obtain ⟨A, cc, e, _⟩ := OwnG.form h
    injection e
  subst hl
  have h1 := World.ownsRow.stored h (q * 4 + 3) (.bool true)
  refine ⟨?_, h1.2, World.ownsRow.frozenAt h _⟩
  unfold OwnE OwnG
  rw [flat_set3 l q x hx, List.length_set]
  exact h1.1
theorem OwnE.block {w W : World} {v : Value} {l : List En} (h : OwnE w W v l) (h0 : 0 < l.length) : ∃ g c, v = .slice (some ⟨g, 0, none⟩) l.length c ∧ w.heap.size ≤ g ∧ g < W.heap.size := by
  obtain ⟨g, cap, hv, _, hlt⟩ := World.ownsRow.form h h0
  subst hv
  have := World.ownsRow.lt h g rfl
  exact ⟨g, cap, rfl, this.1, this.2⟩
theorem own_ne {w W : World} {v : Value} {l : List En} (h : OwnE w W v l) {p : Nat} (hp : p < w.heap.size) : v.ownBlock = none ∨ v.ownBlock ≠ some p := .inr fun e => by have := (OwnE.lt h p e).1; omega
/-- a block that holds one entry -/
def BoxE (W : World) (q : Nat) (x : En) : Prop := W.heap[q]? = some (.cells #[.int .u32 x.c, .int .u32 x.k, .int .i32 x.ch, .bool x.g] 38 (0, 0))
theorem BoxE.row {W : World} {q : Nat} {x : En} (h : BoxE W q x) : EnS W (some ⟨q, 0, none⟩) [x] := fun _ => ⟨q, 0, rfl, fun j u hu => by rw [Nat.zero_add, cell_of_row W q j _ _ _ h]; rw [flat_one] at hu; simpa [encE] using hu⟩

end Go.Proofs.Ytanknhalgoheeaa
