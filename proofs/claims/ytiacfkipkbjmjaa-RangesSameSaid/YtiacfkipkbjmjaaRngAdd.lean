/-
  Contract of ranges.add; no claim stands here.
-/
import Derived.Test.YtiacfkipkbjmjaaRngMem
import Derived.Test.YtiacfkipkbjmjaaRngCmp
namespace Go.Proofs.Ytiacfkipkbjmjaa
open Go.ChangeShapes Go.WideShapes Go.ChangeAt Go.RowKit Go.Sort
set_option linter.unusedVariables false
attribute [local go_sem] World.cell?_alloc_some

/-- a row of the call's own is told -/
def RetOwn (w0 : World) (l : List (Int × Int × Int)) (e : Ending) (w' : World) : Prop := ∃ v, e = .returned v ∧ OwnS w0 w' v l ∧ Ext w0 w'

set_option maxHeartbeats 2000000 in
theorem add_empty (w0 W : World) (A : Option Addr) (c : Nat) (x y z : Int) (ho : OwnS w0 W (.slice A 0 c) []) (hx : Ext w0 W) :
    Calls Try.prog 20 #[.slice A 0 c, spv x y z] W (RetOwn w0 [(x, y, z)]) := by
  replace ho := Lib.hid ho
  go_enter Try.func20, Try.ntmps20
  go_wp2
  have x1 : Ext W (W.alloc (Obj.cells #[Value.int IntKind.u32 x, Value.int IntKind.u32 y, Value.int IntKind.u32 z] 36)) := (Ext.refl _).alloc _
  have q0 : (W.alloc (Obj.cells #[Value.int IntKind.u32 x, Value.int IntKind.u32 y, Value.int IntKind.u32 z] 36)).cell? ⟨W.heap.size, 0, none⟩ = some (Vu x) := by simp [go_sem]
  have q1 : (W.alloc (Obj.cells #[Value.int IntKind.u32 x, Value.int IntKind.u32 y, Value.int IntKind.u32 z] 36)).cell? ⟨W.heap.size, 1, none⟩ = some (Vu y) := by simp [go_sem]
  have q2 : (W.alloc (Obj.cells #[Value.int IntKind.u32 x, Value.int IntKind.u32 y, Value.int IntKind.u32 z] 36)).cell? ⟨W.heap.size, 2, none⟩ = some (Vu z) := by simp [go_sem]
  replace ho := Lib.hid (ho.out.ext x1)
  replace hx := hx.trans x1
  clear x1
  generalize W.alloc (Obj.cells #[Value.int IntKind.u32 x, Value.int IntKind.u32 y, Value.int IntKind.u32 z] 36) = W1 at *
  generalize W.heap.size = py at *
  go_quiet (fail)
  have x2 : Ext W1 (W1.drewN nq) := (Ext.refl _).drewN nq
  replace ho := Lib.hid (ho.out.ext x2)
  replace hx := hx.trans x2
  replace q0 := x2.keep q0
  replace q1 := x2.keep q1
  replace q2 := x2.keep q2
  clear x2
  generalize W1.drewN nq = W2 at *
  go_wp2_with (first
    | (at_builtin
       refine wpList_append_S (w0 := w0) rfl (.tmp 19) (.tmp 21) rfl _ [] rfl (ho.out.alloc _) (hx.alloc _) _ 1 1 [(x, y, z)] rfl rfl (SpS.new _ x y z) (by simp) ?_
       intro v2 w2 o2 x2 g2))
  go_ret
  exact ⟨v2, rfl, o2, x2⟩

set_option maxHeartbeats 2000000 in
theorem add_apart (w0 W : World) (g k c : Nat) (l : List (Int × Int × Int)) (a b d x y z : Int) (hk : l.length = k) (hkb : k ≤ 2000) (ho : OwnS w0 W (.slice (some ⟨g, 0, none⟩) (k + 1) c) (l ++ [(a, b, d)])) (hx : Ext w0 W)
    (c0 : W.cell? ⟨g, k * 3, none⟩ = some (Vu a)) (c1 : W.cell? ⟨g, k * 3 + 1, none⟩ = some (Vu b)) (c2 : W.cell? ⟨g, k * 3 + 2, none⟩ = some (Vu d)) (hap : apartB (a, b, d) (x, y, z) = true) :
    Calls Try.prog 20 #[.slice (some ⟨g, 0, none⟩) (k + 1) c, spv x y z] W (RetOwn w0 (l ++ [(a, b, d)] ++ [(x, y, z)])) := by
  replace ho := Lib.hid ho
  replace hk := Lib.hid hk
  have hcall := fun W' => apart_any a b d x y z W'
  rw [hap] at hcall
  replace hcall := Lib.hid hcall
  clear hap
  have hsub : IntKind.i64.wrap (((k + 1 : Nat) : Int) - 1) = (k : Int) := by rw [show (((k + 1 : Nat) : Int) - 1) = (k : Int) by omega]; exact IntWalk.i64_in _ (by omega)
  have hi0 : decide ((k : Int) < 0) = false := by simp
  have hi1 : (0 : Int) ≤ (k : Int) := by omega
  have hi2 : (k : Int) < ((k + 1 : Nat) : Int) := by omega
  go_enter Try.func20, Try.ntmps20
  go_wp2
  have x1 : Ext W (W.alloc (Obj.cells #[Value.int IntKind.u32 x, Value.int IntKind.u32 y, Value.int IntKind.u32 z] 36)) := (Ext.refl _).alloc _
  have q0 : (W.alloc (Obj.cells #[Value.int IntKind.u32 x, Value.int IntKind.u32 y, Value.int IntKind.u32 z] 36)).cell? ⟨W.heap.size, 0, none⟩ = some (Vu x) := by simp [go_sem]
  have q1 : (W.alloc (Obj.cells #[Value.int IntKind.u32 x, Value.int IntKind.u32 y, Value.int IntKind.u32 z] 36)).cell? ⟨W.heap.size, 1, none⟩ = some (Vu y) := by simp [go_sem]
  have q2 : (W.alloc (Obj.cells #[Value.int IntKind.u32 x, Value.int IntKind.u32 y, Value.int IntKind.u32 z] 36)).cell? ⟨W.heap.size, 2, none⟩ = some (Vu z) := by simp [go_sem]
  replace c0 := x1.keep c0
  replace c1 := x1.keep c1
  replace c2 := x1.keep c2
  replace ho := Lib.hid (ho.out.ext x1)
  replace hx := hx.trans x1
  clear x1
  generalize W.alloc (Obj.cells #[Value.int IntKind.u32 x, Value.int IntKind.u32 y, Value.int IntKind.u32 z] 36) = W1 at *
  generalize W.heap.size = py at *
  have r0 := cell_regrown c0
  have r1 := cell_regrown c1
  have r2 := cell_regrown c2
  have s0 := cell_regrown q0
  have s1 := cell_regrown q1
  have s2 := cell_regrown q2
  clear c0 c1 c2 q0 q1 q2
  refine wp_region_quiet_below (by kernel_rfl) (by kernel_rfl) ?_
  repeat go_big_quiet_step ((with_reducible exact Calls.in_regrown (hcall.out _)))
  refine wpQuiet_nil ?_
  intro _ hw'
  obtain ⟨⟨dq, osq⟩, hw''⟩ := hw'
  subst hw''
  have x2 := Ext.regrown W1 dq osq
  replace ho := Lib.hid (ho.out.ext x2)
  replace hx := hx.trans x2
  clear x2
  replace r0 := r0 dq osq
  replace r1 := r1 dq osq
  replace r2 := r2 dq osq
  replace s0 := s0 dq osq
  replace s1 := s1 dq osq
  replace s2 := s2 dq osq
  generalize grow (redrawn W1 dq) osq = W2 at *
  go_wp2_with (first
    | (at_builtin
       refine wpList_append_S (w0 := w0) rfl (.tmp 19) (.tmp 21) rfl _ (l ++ [(a, b, d)]) rfl (ho.out.alloc _) (hx.alloc _) _ 1 1 [(x, y, z)] rfl rfl (SpS.new _ x y z) (by simp [hk.out]; omega) ?_
       intro v2 w2 o2 x2 g2))
  go_ret
  exact ⟨v2, rfl, o2, x2⟩

set_option maxHeartbeats 2000000 in
theorem add_more (w0 W : World) (g k c : Nat) (l : List (Int × Int × Int)) (a b d x y z u : Int) (hk : l.length = k) (hkb : k ≤ 2000) (ho : OwnS w0 W (.slice (some ⟨g, 0, none⟩) (k + 1) c) (l ++ [(a, b, d)])) (hx : Ext w0 W)
    (c0 : W.cell? ⟨g, k * 3, none⟩ = some (Vu a)) (c1 : W.cell? ⟨g, k * 3 + 1, none⟩ = some (Vu b)) (c2 : W.cell? ⟨g, k * 3 + 2, none⟩ = some (Vu d)) (hap : apartB (a, b, d) (x, y, z) = false)
    (hu : max d z = u) (hg : w0.heap.size ≤ g) :
    Calls Try.prog 20 #[.slice (some ⟨g, 0, none⟩) (k + 1) c, spv x y z] W (RetOwn w0 (l ++ [(a, b, u)])) := by
  replace ho := Lib.hid ho
  replace hk := Lib.hid hk
  replace hu := Lib.hid hu
  have hcall := fun W' => apart_any a b d x y z W'
  rw [hap] at hcall
  replace hcall := Lib.hid hcall
  clear hap
  have hsub : IntKind.i64.wrap (((k + 1 : Nat) : Int) - 1) = (k : Int) := by rw [show (((k + 1 : Nat) : Int) - 1) = (k : Int) by omega]; exact IntWalk.i64_in _ (by omega)
  have hi0 : decide ((k : Int) < 0) = false := by simp
  have hi1 : (0 : Int) ≤ (k : Int) := by omega
  have hi2 : (k : Int) < ((k + 1 : Nat) : Int) := by omega
  go_enter Try.func20, Try.ntmps20
  go_wp2
  have x1 : Ext W (W.alloc (Obj.cells #[Value.int IntKind.u32 x, Value.int IntKind.u32 y, Value.int IntKind.u32 z] 36)) := (Ext.refl _).alloc _
  have q0 : (W.alloc (Obj.cells #[Value.int IntKind.u32 x, Value.int IntKind.u32 y, Value.int IntKind.u32 z] 36)).cell? ⟨W.heap.size, 0, none⟩ = some (Vu x) := by simp [go_sem]
  have q1 : (W.alloc (Obj.cells #[Value.int IntKind.u32 x, Value.int IntKind.u32 y, Value.int IntKind.u32 z] 36)).cell? ⟨W.heap.size, 1, none⟩ = some (Vu y) := by simp [go_sem]
  have q2 : (W.alloc (Obj.cells #[Value.int IntKind.u32 x, Value.int IntKind.u32 y, Value.int IntKind.u32 z] 36)).cell? ⟨W.heap.size, 2, none⟩ = some (Vu z) := by simp [go_sem]
  replace c0 := x1.keep c0
  replace c1 := x1.keep c1
  replace c2 := x1.keep c2
  replace ho := Lib.hid (ho.out.ext x1)
  replace hx := hx.trans x1
  clear x1
  generalize W.alloc (Obj.cells #[Value.int IntKind.u32 x, Value.int IntKind.u32 y, Value.int IntKind.u32 z] 36) = W1 at *
  generalize W.heap.size = py at *
  have r0 := cell_regrown c0
  have r1 := cell_regrown c1
  have r2 := cell_regrown c2
  have s0 := cell_regrown q0
  have s1 := cell_regrown q1
  have s2 := cell_regrown q2
  clear c0 c1 c2 q0 q1 q2
  refine wp_region_quiet_below (by kernel_rfl) (by kernel_rfl) ?_
  repeat go_big_quiet_step ((with_reducible exact Calls.in_regrown (hcall.out _)))
  refine wpQuiet_nil ?_
  intro _ hw'
  obtain ⟨⟨dq, osq⟩, hw''⟩ := hw'
  subst hw''
  have x2 := Ext.regrown W1 dq osq
  replace ho := Lib.hid (ho.out.ext x2)
  replace hx := hx.trans x2
  clear x2
  replace r0 := r0 dq osq
  replace r1 := r1 dq osq
  replace r2 := r2 dq osq
  replace s0 := s0 dq osq
  replace s1 := s1 dq osq
  replace s2 := s2 dq osq
  generalize grow (redrawn W1 dq) osq = W2 at *
  have f2 : W2.frozen? ⟨g, k * 3 + 2, none⟩ = false := World.ownsRow.frozenAt (n := k + 1) (base := w0.heap.size) (e := 36) (size := 3) (cap := c) (xs := flat encS (l ++ [(a, b, d)])) (by have := ho.out; unfold OwnS at this; rwa [show (l ++ [(a, b, d)]).length = k + 1 by simp [hk.out]] at this) _
  go_wp2
  go_region
  rw [hu.out]
  have o3 : OwnS w0 (W2.setCell ⟨g, k * 3 + 2, none⟩ (Vu u)).drew (.slice (some ⟨g, 0, none⟩) (k + 1) c) (l ++ [(a, b, u)]) := by
    have h1 := ho.out
    rw [← hk.out] at h1 ⊢
    have h2 := OwnS.last (x := a) (y := b) (z := d) (c := c) (g := g) (l := l) (by simpa using h1) u
    exact OwnS.ext (by simpa using h2) ((Ext.refl _).drew)
  have x3 : Ext w0 (W2.setCell ⟨g, k * 3 + 2, none⟩ (Vu u)).drew := (hx.setCell hg _).drew
  replace o3 := Lib.hid o3
  go_wp2
  go_ret
  exact ⟨_, rfl, o3.out, x3⟩

/-- a span is put in at the end of a row of the call's own -/
theorem add_any (w0 W : World) (v : Value) (l : List (Int × Int × Int)) (x y z : Int) (ho : OwnS w0 W v l) (hx : Ext w0 W) (hb : l.length ≤ 2000) :
    Calls Try.prog 20 #[v, spv x y z] W (RetOwn w0 (addOf l (x, y, z))) := by
  rcases List.eq_nil_or_concat l with e | ⟨l0, ⟨a, b, d⟩, e⟩
  · subst e
    obtain ⟨A, c, rfl⟩ := ho.form
    rw [add_nil]
    exact add_empty w0 W A c x y z ho hx
  · rw [List.concat_eq_append] at e
    subst e
    obtain ⟨g, c, hv, hg, hg2⟩ := ho.block (by simp)
    have hv' : v = .slice (some ⟨g, 0, none⟩) (l0.length + 1) c := by rw [hv]; simp
    subst hv'
    obtain ⟨A9, c9, hv9, hs9⟩ := SpS.own ho
    obtain rfl : some ⟨g, 0, none⟩ = A9 := by injection hv9
    obtain ⟨b', o', x', y', z', hA, hp, c0, c1, c2⟩ := SpS.at hs9 (k := l0.length) (by simp)
    injection hA with hA
    injection hA with e1 e2
    subst e1
    subst e2
    have e3 : (a, b, d) = (x', y', z') := by simpa using hp
    injection e3 with e3 e4
    injection e4 with e4 e5
    subst e3
    subst e4
    subst e5
    rw [Nat.zero_add] at c0 c1 c2
    rw [add_snoc]
    have hlen : l0.length ≤ 2000 := by simp at hb; omega
    cases hap : apartB (a, b, d) (x, y, z) with
    | true =>
      rw [if_pos rfl]
      exact add_apart w0 W g l0.length c l0 a b d x y z rfl hlen ho hx c0 c1 c2 hap
    | false =>
      rw [if_neg (by simp)]
      exact add_more w0 W g l0.length c l0 a b d x y z _ rfl hlen ho hx c0 c1 c2 hap rfl hg

end Go.Proofs.Ytiacfkipkbjmjaa
