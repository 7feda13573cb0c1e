/-
  What the laws of layer 12 ask of diff's functions; the example at the head of these laws; no claim stands here.
-/
import Derived.Test.YtjjehncgenajfaaDoorDfR
import Derived.Test.YtjjehncgenajfaaDoorErr
import Derived.Test.YtjjehncgenajfaaDoorTab
namespace Go.Proofs.YtjjehncgenajfaaDoor
open Go.ChangeShapes Go.WideShapes Go.ChangeAt Go.RowKit Go.Sort
set_option linter.unusedVariables false
attribute [local go_sem] World.cell?_alloc_some

/-- what diff's Do tells -/
def doV (s : List UInt8) (at' del : Int) (ins : List UInt8) : Value := if doOK (runesD s).length at' del then .tuple #[Vs (doB s at' del ins), errv 0] else .tuple #[Vs [], errv 3]
/-- what the laws of layer 12 ask of diff -/
structure DfK : Prop where
  of : ∀ (s t : List UInt8) (w : World), Tabs w → Lib.validD s = true → Lib.validD t = true → s.length ≤ 10000 → t.length ≤ 10000 → Calls Tryd.prog 7 #[Vs s, Vs t] w fun e w' => e = .returned (dfV s t) ∧ Ext w w'
  done : ∀ (s : List UInt8) (at' del : Int) (ins : List UInt8) (w : World), Tabs w → Lib.validD s = true → Lib.validD ins = true → s.length ≤ 10000 → ins.length ≤ 10000 → -9223372036854775808 ≤ at' → at' ≤ 9223372036854775807 → -9223372036854775808 ≤ del → del ≤ 9223372036854775807 →
    Calls Tryd.prog 9 #[Vs s, .agg #[Vi at', Vi del, Vs ins]] w fun e w' => e = .returned (doV s at' del ins) ∧ Ext w w'
theorem chars_u (l : List UInt8) (hl : l.length ≤ 2000000) (w : World) : Calls Tryd.prog 6 #[Vs l] w fun e w' => ∃ v, e = .returned (.tuple #[v, .bool (Lib.validD l)]) ∧ (Lib.validD l = true → OwnU w w' v (runesD l)) ∧ Ext w w' := by
  refine (chars_any ⟨l.toArray⟩ (by show l.toArray.size ≤ _; simp; omega) w).mono ?_
  rintro e w1 ⟨h, x1⟩
  rcases h with ⟨h, rfl⟩ | ⟨h, v, rfl, o⟩
  · have h' : Lib.validD l = false := h
    rw [h']
    exact ⟨_, rfl, fun e => absurd e (by decide), x1⟩
  · have h' : Lib.validD l = true := h
    rw [h']
    exact ⟨v, rfl, fun _ => o, x1⟩
theorem ed_eql (a d : Int) (s : List UInt8) (W : World) : (binOp .eql 27 (.agg #[Vi a, Vi d, Vs s]) (.agg #[Vi a, Vi d, Vs s])).run Tryd.prog W = .ok (.bool true) W := by
  simp [go_sem]

theorem dfV_is (s t : List UInt8) : ∃ (A D : Int) (I : List UInt8) (b : Bool), dfV s t = .tuple #[.agg #[Vi A, Vi D, Vs I], .bool b] := by
  unfold dfV
  split
  · exact ⟨_, _, _, _, rfl⟩
  · exact ⟨_, _, _, _, rfl⟩

def d12a : List UInt8 := [97, 98, 99]
def d12b : List UInt8 := [97, 120, 99]
theorem df12 : dfV d12a d12b = .tuple #[.agg #[Vi 1, Vi 1, Vs [120]], .bool true] := by
  have e1 : runesD d12a = [97, 98, 99] := by decide +kernel
  have e2 : runesD d12b = [97, 120, 99] := by decide +kernel
  unfold dfV
  rw [if_neg (by decide), e1, e2]
  have h1 : cpN [97, 98, 99] [97, 120, 99] = 1 := by decide
  have h2 : dfD [97, 98, 99] [97, 120, 99] = 1 := by decide
  have h3 : encU (dfI [97, 98, 99] [97, 120, 99]) = [120] := by decide +kernel
  rw [h1, h2, h3]
  rfl
theorem do12 : doV d12a 1 1 [120] = .tuple #[Vs d12b, errv 0] := by
  have h1 : doOK (runesD d12a).length 1 1 = true := by decide +kernel
  have h2 : doB d12a 1 1 [120] = d12b := by decide +kernel
  unfold doV
  rw [if_pos h1, h2]

set_option maxRecDepth 100000 in
set_option maxHeartbeats 4000000 in
theorem up12_any (K : DfK) (w : World) (hT : Tabs w) : Calls Tryd.prog 5 #[] w fun e w' => e = .returned (.bool true) ∧ Ext w w' := by
  have v1 : Lib.validD d12a = true := by decide +kernel
  have v2 : Lib.validD d12b = true := by decide +kernel
  have v3 : Lib.validD [120] = true := by decide +kernel
  have k1 := Lib.hid (fun W (hW : Tabs W) => df12 ▸ K.of d12a d12b W hW v1 v2 (by decide) (by decide))
  have k2 := Lib.hid (fun W (hW : Tabs W) => do12 ▸ K.done d12a 1 1 [120] W hW v1 v3 (by decide) (by decide) (by omega) (by omega) (by omega) (by omega))
  go_enter Tryd.func5, Tryd.ntmps5
  go_wp2_with fail
  refine (k1.out _ hT).mono ?_
  rintro e w1 ⟨rfl, x1⟩
  clear k1
  go_wp2_with fail
  have bx : BxE (w1.alloc (.cells #[Vi 1, Vi 1, .string ⟨#[120]⟩] 27)) w1.heap.size 1 1 [120] := heap_alloc_new w1 _
  have xa : Ext w (w1.alloc (.cells #[Vi 1, Vi 1, .string ⟨#[120]⟩] 27)) := x1.alloc _
  refine (k2.out _ (hT.ext xa)).mono ?_
  rintro e w2 ⟨rfl, x2⟩
  obtain ⟨c0, c1, c2⟩ := (bx.ext x2).cells
  replace xa := xa.trans x2
  replace c2 : w2.cell? ⟨w1.heap.size, 2, none⟩ = some (.string ⟨#[120]⟩) := c2
  clear k2 bx x1 x2
  generalize w1.heap.size = p1 at *
  have he : ∀ W : World, (binOp .eql 27 (.agg #[Vi 1, Vi 1, .string ⟨#[120]⟩]) (.agg #[Vi 1, Vi 1, .string ⟨#[120]⟩])).run Tryd.prog W = .ok (.bool true) W := fun W => ed_eql 1 1 [120] W
  have hz : errv 0 = .nilIface := by simp [errv]
  rw [hz]
  go_wp2
  go_ret
  exact ⟨rfl, xa⟩

end Go.Proofs.YtjjehncgenajfaaDoor
