/-
  IdsTells answers true for every two Ids, every number and every limit, and leaves its arguments as they were; no condition.
-/
import Derived.Test.YtkfnmnfebopfiaaIds
namespace Go.Proofs.Ytkfnmnfebopfiaa
open Go.ChangeShapes Go.WideShapes Go.ChangeAt Go.RowKit Go.Sort
set_option linter.unusedVariables false
attribute [local go_sem] World.cell?_alloc_some

theorem cmp_same (a b c d : Int) : cmpRef a b c d = cmpId a b c d := by
  unfold cmpRef cmpId cmpI befId
  simp only [decide_eq_true_eq]
  (repeat' split) <;> omega

theorem cmpRef_same (a b c d : Int) (w : World) : Calls Try.prog 9 #[idv a b, idv c d] w fun e w' => e = .returned (Vi (cmpId a b c d)) ∧ Ext w w' := by
  rw [← cmp_same]; exact cmpRef_any a b c d w

theorem tells_walk (a b c d n l : Int) (w : World) (hb0 : 0 ≤ b) (hb1 : b ≤ 4294967295) (hn0 : -9223372036854775808 ≤ n) (hn1 : n ≤ 9223372036854775807) (hl0 : 0 ≤ l) (hl1 : l ≤ 4294967295) :
    Calls Try.prog 3 #[idv a b, idv c d, Vi n, Vu l] w fun e w' => e = .returned (.bool true) ∧ Ext w w' := by
  go_enter Try.func3, Try.ntmps3
  go_wp2_with fail
  refine (up_any _).mono ?_
  rintro e w1 ⟨rfl, x1⟩
  have hE1 := Ext.trans (((Ext.refl w).alloc _).alloc _) x1
  have a0 := x1.keep (p := ⟨w.heap.size, 0, none⟩) (v := Vu a) (by simp [go_sem])
  have a1 := x1.keep (p := ⟨w.heap.size, 1, none⟩) (v := Vu b) (by simp [go_sem])
  have b0 := x1.keep (p := ⟨w.heap.size + 1, 0, none⟩) (v := Vu c) (by simp [go_sem])
  have b1 := x1.keep (p := ⟨w.heap.size + 1, 1, none⟩) (v := Vu d) (by simp [go_sem])
  clear x1
  generalize w.heap.size = pa at *
  go_wp2_with fail
  refine (after_any _ _ _ _ _ hb0 hb1 hn0 hn1 hl0 hl1).mono ?_
  rintro e w2 ⟨rfl, x2⟩
  generalize hr : aftId a b n l = r
  obtain ⟨x, y, z⟩ := r
  have hE2 := hE1.trans x2
  replace a0 := x2.keep a0
  replace a1 := x2.keep a1
  replace b0 := x2.keep b0
  replace b1 := x2.keep b1
  clear x2
  go_wp2_with fail
  refine (afterRef_any _ _ _ _ _ hb0 hb1 hn0 hn1 hl0 hl1).mono ?_
  rintro e w3 ⟨rfl, x3⟩
  rw [hr]
  have k3 := Ext.trans ((Ext.refl w2).alloc _) x3
  have hE3 := hE2.trans k3
  have p0 := x3.keep (p := ⟨w2.heap.size, 0, none⟩) (v := Vu x) (by simp [go_sem])
  have p1 := x3.keep (p := ⟨w2.heap.size, 1, none⟩) (v := Vu y) (by simp [go_sem])
  replace a0 := k3.keep a0
  replace a1 := k3.keep a1
  replace b0 := k3.keep b0
  replace b1 := k3.keep b1
  clear x3 k3
  generalize w2.heap.size = px at *
  go_wp2_with fail
  have k4 : Ext w3 (w3.alloc (Obj.cells #[Value.int IntKind.u32 x, Value.int IntKind.u32 y] 24)) := (Ext.refl _).alloc _
  have hE4 := hE3.trans k4
  have q0 : (w3.alloc (Obj.cells #[Value.int IntKind.u32 x, Value.int IntKind.u32 y] 24)).cell? ⟨w3.heap.size, 0, none⟩ = some (Vu x) := by simp [go_sem]
  have q1 : (w3.alloc (Obj.cells #[Value.int IntKind.u32 x, Value.int IntKind.u32 y] 24)).cell? ⟨w3.heap.size, 1, none⟩ = some (Vu y) := by simp [go_sem]
  replace a0 := cell_regrown (k4.keep a0)
  replace a1 := cell_regrown (k4.keep a1)
  replace b0 := cell_regrown (k4.keep b0)
  replace b1 := cell_regrown (k4.keep b1)
  replace p0 := cell_regrown (k4.keep p0)
  replace p1 := cell_regrown (k4.keep p1)
  replace q0 := cell_regrown q0
  replace q1 := cell_regrown q1
  clear k4 hE1 hE2 hE3
  have hz : 0 ≤ z ∧ z ≤ 6 := by
    have : z = (aftId a b n l).2.2 := by rw [hr]
    rw [this]; unfold aftId; (repeat' split) <;> simp
  clear hr
  generalize w3.alloc (Obj.cells #[Value.int IntKind.u32 x, Value.int IntKind.u32 y] 24) = W at *
  generalize w3.heap.size = py at *
  refine wp_region_quiet_below (by kernel_rfl) (by kernel_rfl) ?_
  repeat (quiet_step (first | exact Calls.in_regrown (cmp_any _ _ _ _ _) | exact Calls.in_regrown (cmpRef_same _ _ _ _ _) | exact Calls.in_regrown (none_any _ _ _) | exact Calls.same_regrown (code_any _ _ hz.1 hz.2)))
  refine wpQuiet_nil ?_
  intro _ hw'
  obtain ⟨⟨dq, osq⟩, hw''⟩ := hw'
  subst hw''
  go_wp2
  go_ret
  exact ⟨by simp, hE4.trans (Ext.regrown _ _ _)⟩


set_option maxRecDepth 100000 in
theorem tells_lifted (os : Os) (started : os.Started) (H : Type) (enc : TypeId × Value → H) :
    ReturnsInHanded {} Try.checked os 3 .any (Rows.idsTellsSpec.pre6 enc Try.prog Try.f3 Rows.idsTellsRow.domain false) (Rows.idsTellsSpec.post enc Try.prog Try.f3 false true false false) := by
  refine returnsInHanded_of_change (C := Try.checked) own started (by kernel_rfl) Try.func3
    (ChangeSpec.witness6 (enc := enc) (C := Try.checked) false ⟨#[], #[idv 0 0, idv 0 0, .int .i64 0, .int .u32 0], []⟩ 8 (by kernel_rfl) (by kernel_rfl) (by kernel_rfl) (by kernel_rfl)) ?_
  intro W base args ds gs before hval0 hW _ _
  have hval : ∀ (j : Nat) t v, Try.f3.params[j]? = some t → args[j]? = some v → Value.okWide Try.prog W .any base t v := hval0
  have hW' := hW
  obtain ⟨p, q, hA0, hV, rfl, _, _⟩ := hW
  have hA : DataW.TrodAll enc Try.prog W 0 (fun _ => true) true Try.f3.params.toList args.toList ds p := hA0
  rw [Try.params3] at hA hval
  obtain ⟨v0, v1, v2, v3, d0, d1, d2, d3, p0, p1, p2, p3, rfl, rfl, rfl, h0, h1, h2, h3⟩ := trodAll_four hA
  obtain ⟨rfl, rfl⟩ := trodVars_none hV
  obtain ⟨a, b, rfl, rfl, rfl, wa, wb⟩ := id_opens (hval 0 24 v0 rfl rfl) h0
  obtain ⟨c, d, rfl, rfl, rfl, wc, wd⟩ := id_opens (hval 1 24 v1 rfl rfl) h1
  obtain ⟨n, rfl, rfl, rfl, wn⟩ := open_int Try.underlying3 (hval 2 3 v2 rfl rfl) h2
  obtain ⟨l, rfl, rfl, rfl, wl⟩ := open_int Try.underlying22 (hval 3 22 v3 rfl rfl) h3
  clear hA0 hval0
  simp only [List.append_nil] at hW'
  refine (tells_walk a b c d n l W (bounds_u32 wb).1 (bounds_u32 wb).2 (bounds_i64 wn).1 (bounds_i64 wn).2 (bounds_u32 wl).1 (bounds_u32 wl).2).mono fun e W' ⟨he, hg⟩ => ?_
  subst he
  exact ⟨_, rfl, law_post hW' laid (by decide +kernel) rfl rfl rfl rfl hg (by kernel_rfl) Try.underlying4⟩

theorem tells_holds : Rows.IdsTellsSaid :=
  OpenClaim.holds_of_wide 3 Try.f3 rfl rfl rfl rfl rfl rfl rfl ⟨rfl, rfl, rfl, rfl, rfl⟩ rfl rfl rfl rfl rfl (by kernel_rfl) Try.func3 (by kernel_rfl)
    (of_decide_eq_true (by kernel_rfl)) (by unfold Func.isWrapper; first | (rw [if_pos (by decide +kernel)]; kernel_rfl) | (rw [if_neg (by decide +kernel)]; exact ⟨rfl, rfl⟩))
    (fun os started H enc _ => tells_lifted os started H enc)

end Go.Proofs.Ytkfnmnfebopfiaa
