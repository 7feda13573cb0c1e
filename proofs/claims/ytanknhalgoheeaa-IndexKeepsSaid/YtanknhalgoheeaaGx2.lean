/-
  append to a slice of no room: nothing that was there turns; no claim stands here.
-/
import Derived.Test.YtanknhalgoheeaaXMem
import Derived.Room.AppendUpon
namespace Go.Proofs.Ytanknhalgoheeaa
open Go.ChangeShapes Go.WideShapes Go.ChangeAt Go.RowKit Go.Sort
set_option linter.unusedVariables false

theorem append_base {P : Program} (w : World) (t ty e : TypeId) (i : TypeInfo) (ht : P.underlying t = some (.slice e)) (hi : P.info? e = some i) (base : Option Addr) (A : Option Addr) (m c : Nat) (hm : 0 < m)
    (hfit : Builtin.nextslicecap m 0 * i.bytes ≤ 281474976710656) (h63 : (m : Int) ≤ 9223372036854775807) :
    (Builtin.append_ #[t, t] ty #[.slice base 0 0, .slice A m c]).run P w = (Builtin.append_ #[t, t] ty #[.slice none 0 0, .slice A m c]).run P w := by
  have h48' : ¬ (281474976710656 < Builtin.nextslicecap m 0 * i.bytes) := by omega
  have h63' : ¬ (9223372036854775807 < (m : Int)) := by omega
  have hm0 : ¬ (m ≤ 0) := by omega
  have hm1 : ¬ (m = 0) := by omega
  cases base with
  | none => rfl
  | some a =>
    simp [Builtin.append_, run_underlying ht, sizeOf, typeInfo, hi, Builtin.lenOf, hm1, h48', h63', Builtin.firstCells, loadCells, loadCellsFrom]
/-- append to an empty slice of no room, wherever it points: the row is the call's own, and nothing that was there has turned -/
theorem run_append_E0 (w0 w : World) (ty : TypeId) (q : Nat) (l : List En) (A : Option Addr) (m c : Nat) (hm : l.length = m) (hr : EnS w A l) (hx : Ext w0 w) (hb : m ≤ 1000) (hq : w0.heap.size ≤ q) (hqc : w.heap[q]? = some (.cells #[] 38 (0, 0))) :
    ∃ v' w', (Builtin.append_ #[22, 22] ty #[.slice (some ⟨q, 0, none⟩) 0 0, .slice A m c]).run Try.prog w = .ok v' w' ∧ OwnE w0 w' v' l ∧ Ext w w' := by
  obtain ⟨i, hi, hz0, hz1, hz2⟩ := info_parts infoE
  subst hm
  obtain ⟨v', w', hrun, h2, h3, h4⟩ := run_append_rowB (P := Try.prog) w w0.heap.size 22 ty 38 i _ 4 16 Try.underlying22 hi hz0 hz1 hz2 rfl (by omega) (.slice none 0 0) 0 [] (World.ownsRow_nil w _ _ _) A l.length c _ (flat_len encE_len l) hr (flat_one_cell encE_one l)
    (by unfold maxLen; omega) (by omega) hx.size
  rcases Nat.eq_zero_or_pos l.length with h0 | h0
  · obtain rfl : l = [] := List.eq_nil_of_length_eq_zero h0
    refine ⟨.slice (some ⟨q, 0, none⟩) 0 0, w, ?_, ⟨by simp [flat], .inr ⟨q, 0, #[], rfl, hq, hqc, Nat.le_refl _, by unfold maxLen; omega, by simp, by simp [flat]⟩⟩, Ext.refl _⟩
    cases A <;> simp [Builtin.append_, run_underlying Try.underlying22, sizeOf, typeInfo, hi, Builtin.lenOf, Builtin.firstCells, storeCells, loadCells, loadCellsFrom]
  · refine ⟨v', w', ?_, ?_, ?_⟩
    · rw [append_base w _ _ _ i Try.underlying22 hi _ A l.length c h0 ?_ (by omega)]
      · exact hrun
      · rw [hz2]
        have : Builtin.nextslicecap l.length 0 ≤ 10000 := by
          unfold Builtin.nextslicecap
          rw [if_pos (by omega)]
          omega
        omega
    · unfold OwnE OwnG
      have := h2
      rw [Nat.zero_add, List.nil_append] at this
      exact this
    · exact Ext.grown (Ext.refl w) (v := .slice none 0 0) h3 (fun k hk => by cases hk)

end Go.Proofs.Ytanknhalgoheeaa
