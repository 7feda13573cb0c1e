/-
  IdsOrder answers true for every three Ids, every two numbers and every limit, and leaves its arguments as they were; no condition.
-/
import Derived.Test.YtkfnmnfebopfiaaIds
import Derived.Deep.DeepCutAuto
namespace Go.Proofs.Ytkfnmnfebopfiaa
open Go.ChangeShapes Go.WideShapes Go.ChangeAt Go.RowKit Go.Sort
set_option linter.unusedVariables false
attribute [local go_sem] World.cell?_alloc_some
attribute [local go_sem ↓] id_eql

theorem cmp_at {a b c d s : Int} (h : cmpId a b c d = s) (w : World) : Calls Try.prog 8 #[idv a b, idv c d] w fun e w' => e = .returned (Vi s) ∧ Ext w w' := by
  rw [← h]; exact cmp_any a b c d w

/-- how three Ids stand: the first before the second, the same, or behind it; and what follows -/
theorem cmp_cases (a b c d e f : Int) :
    (cmpId a b c d = -1 ∧ cmpId c d a b = 1 ∧ idEq a b c d = false ∧ (cmpId c d e f < 0 → cmpId a b e f = -1)) ∨
    (cmpId a b c d = 0 ∧ cmpId c d a b = 0 ∧ idEq a b c d = true) ∨
    (cmpId a b c d = 1 ∧ cmpId c d a b = -1 ∧ idEq a b c d = false) := by
  unfold cmpId cmpI
  rcases Int.lt_trichotomy a c with h | h | h
  · refine .inl ⟨?_, ?_, ?_, ?_⟩
    · (repeat' split) <;> omega
    · (repeat' split) <;> omega
    · simp [idEq]; omega
    · (repeat' split) <;> omega
  · subst h
    rcases Int.lt_trichotomy b d with h | h | h
    · refine .inl ⟨?_, ?_, ?_, ?_⟩
      · (repeat' split) <;> omega
      · (repeat' split) <;> omega
      · simp [idEq]; omega
      · (repeat' split) <;> omega
    · subst h; simp [idEq]
    · refine .inr (.inr ⟨?_, ?_, ?_⟩)
      · (repeat' split) <;> omega
      · (repeat' split) <;> omega
      · simp [idEq]; omega
  · refine .inr (.inr ⟨?_, ?_, ?_⟩)
    · (repeat' split) <;> omega
    · (repeat' split) <;> omega
    · simp [idEq]; omega

theorem aft_four {a b n l : Int} (ha : a ≠ 0) (hn : 0 ≤ n) (h : l < b + n) : aftId a b n l = (0, 0, 4) := by
  unfold aftId; rw [if_neg (by omega), if_pos (by omega)]
theorem aft_ok {a b n l : Int} (ha : a ≠ 0) (hn : 0 ≤ n) (h : b + n ≤ l) : aftId a b n l = (a, b + n, 0) := by
  unfold aftId; rw [if_neg (by omega), if_neg (by omega)]

set_option maxRecDepth 100000 in
set_option maxHeartbeats 1000000 in
theorem order_walk (a b c d e f n m l : Int) (w : World) (hb0 : 0 ≤ b) (hb1 : b ≤ 4294967295) (hn0 : 0 ≤ n) (hn1 : n ≤ 65535) (hm0 : 0 ≤ m) (hm1 : m ≤ 65535) (hl0 : 0 ≤ l) (hl1 : l ≤ 4294967295) :
    Calls Try.prog 4 #[idv a b, idv c d, idv e f, .int .u16 n, .int .u16 m, Vu l] w fun e w' => e = .returned (.bool true) ∧ Ext w w' := by
  go_enter Try.func4, Try.ntmps4
  go_wp2_with fail
  refine (up_any _).mono ?_
  rintro r w1 ⟨rfl, x1⟩
  have hE1 := Ext.trans ((((Ext.refl w).alloc _).alloc _).alloc _) x1
  have a0 := x1.keep (p := ⟨w.heap.size, 0, none⟩) (v := Vu a) (by simp [go_sem])
  have a1 := x1.keep (p := ⟨w.heap.size, 1, none⟩) (v := Vu b) (by simp [go_sem])
  have b0 := x1.keep (p := ⟨w.heap.size + 1, 0, none⟩) (v := Vu c) (by simp [go_sem])
  have b1 := x1.keep (p := ⟨w.heap.size + 1, 1, none⟩) (v := Vu d) (by simp [go_sem])
  have c0 := x1.keep (p := ⟨w.heap.size + 1 + 1, 0, none⟩) (v := Vu e) (by simp [go_sem])
  have c1 := x1.keep (p := ⟨w.heap.size + 1 + 1, 1, none⟩) (v := Vu f) (by simp [go_sem])
  clear x1
  generalize w.heap.size = pa at *
  go_wp2_with fail
  go_cut [56] (fun s wx => s = .bool false ∧ Ext w1 wx)
  case first =>
    replace a0 := cell_regrown a0
    replace a1 := cell_regrown a1
    replace b0 := cell_regrown b0
    replace b1 := cell_regrown b1
    replace c0 := cell_regrown c0
    replace c1 := cell_regrown c1
    rcases cmp_cases a b c d e f with ⟨h1, h2, h3, h4⟩ | ⟨h1, h2, h3⟩ | ⟨h1, h2, h3⟩
    · replace h1 := Lib.hid h1
      replace h2 := Lib.hid h2
      by_cases ht : cmpId c d e f < 0
      · have h5 := Lib.hid (h4 ht)
        clear h4
        obtain ⟨t, h6⟩ : ∃ t, cmpId c d e f = t := ⟨_, rfl⟩
        rw [h6] at ht
        replace h6 := Lib.hid h6
        refine wp_region_quiet_below (by kernel_rfl) (by kernel_rfl) ?_
        repeat go_big_quiet_step ((first | with_reducible exact Calls.in_regrown (cmp_at h1.out _) | with_reducible exact Calls.in_regrown (cmp_at h2.out _) | with_reducible exact Calls.in_regrown (cmp_at h5.out _) | with_reducible exact Calls.in_regrown (cmp_at h6.out _)))
        refine wpQuiet_nil ?_
        intro _ hw'
        obtain ⟨⟨dq, osq⟩, hw''⟩ := hw'
        subst hw''
        go_wp2_with fail
        go_meet
        exact ⟨rfl, Ext.regrown _ _ _⟩
      · clear h4
        obtain ⟨t, h6⟩ : ∃ t, cmpId c d e f = t := ⟨_, rfl⟩
        rw [h6] at ht
        replace ht : decide (t < 0) = false := by simpa using ht
        replace h6 := Lib.hid h6
        refine wp_region_quiet_below (by kernel_rfl) (by kernel_rfl) ?_
        repeat go_big_quiet_step ((first | with_reducible exact Calls.in_regrown (cmp_at h1.out _) | with_reducible exact Calls.in_regrown (cmp_at h2.out _) | with_reducible exact Calls.in_regrown (cmp_at h6.out _)))
        refine wpQuiet_nil ?_
        intro _ hw'
        obtain ⟨⟨dq, osq⟩, hw''⟩ := hw'
        subst hw''
        go_wp2_with fail
        go_meet
        exact ⟨rfl, Ext.regrown _ _ _⟩
    · replace h1 := Lib.hid h1
      replace h2 := Lib.hid h2
      refine wp_region_quiet_below (by kernel_rfl) (by kernel_rfl) ?_
      repeat go_big_quiet_step ((first | with_reducible exact Calls.in_regrown (cmp_at h1.out _) | with_reducible exact Calls.in_regrown (cmp_at h2.out _)))
      refine wpQuiet_nil ?_
      intro _ hw'
      obtain ⟨⟨dq, osq⟩, hw''⟩ := hw'
      subst hw''
      go_wp2_with fail
      go_meet
      exact ⟨rfl, Ext.regrown _ _ _⟩
    · replace h1 := Lib.hid h1
      replace h2 := Lib.hid h2
      refine wp_region_quiet_below (by kernel_rfl) (by kernel_rfl) ?_
      repeat go_big_quiet_step ((first | with_reducible exact Calls.in_regrown (cmp_at h1.out _) | with_reducible exact Calls.in_regrown (cmp_at h2.out _)))
      refine wpQuiet_nil ?_
      intro _ hw'
      obtain ⟨⟨dq, osq⟩, hw''⟩ := hw'
      subst hw''
      go_wp2_with fail
      go_meet
      exact ⟨rfl, Ext.regrown _ _ _⟩
  case rest =>
    obtain ⟨rfl, x2⟩ := hcut
    replace a0 := x2.keep a0
    replace a1 := x2.keep a1
    have hE2 := hE1.trans x2
    clear b0 b1 c0 c1 x2 hE1
    by_cases hA : a = 0
    · have r1 : aftId a b n l = (0, 0, 1) := by simp [aftId, hA]
      have r2 : aftId a b (n + m) l = (0, 0, 1) := by simp [aftId, hA]
      replace r1 := Lib.hid r1
      replace r2 := Lib.hid r2
      clear hA
      go_wp2_with fail
      refine (after_err _ r1.out (by omega) hb0 hb1 (by omega) (by omega) hl0 hl1).mono ?_
      rintro r w2 ⟨rfl, x2⟩
      have hE3 := hE2.trans x2
      replace a0 := x2.keep a0
      replace a1 := x2.keep a1
      go_wp2_with fail
      refine (after_err _ r2.out (by omega) hb0 hb1 (by omega) (by omega) hl0 hl1).mono ?_
      rintro r w3 ⟨rfl, x3⟩
      have hE4 := ((hE3.alloc _).trans x3).alloc (.cells #[.int .u32 0, .int .u32 0] 24)
      go_wp2
      go_ret
      exact ⟨rfl, hE4⟩
    · by_cases hB : l < b + n
      · have r1 : aftId a b n l = (0, 0, 4) := aft_four hA (by omega) (by omega)
        have r2 : aftId a b (n + m) l = (0, 0, 4) := aft_four hA (by omega) (by omega)
        replace r1 := Lib.hid r1
        replace r2 := Lib.hid r2
        clear hA
        go_wp2_with fail
        refine (after_err _ r1.out (by omega) hb0 hb1 (by omega) (by omega) hl0 hl1).mono ?_
        rintro r w2 ⟨rfl, x2⟩
        have hE3 := hE2.trans x2
        replace a0 := x2.keep a0
        replace a1 := x2.keep a1
        go_wp2_with fail
        refine (after_err _ r2.out (by omega) hb0 hb1 (by omega) (by omega) hl0 hl1).mono ?_
        rintro r w3 ⟨rfl, x3⟩
        have hE4 := ((hE3.alloc _).trans x3).alloc (.cells #[.int .u32 0, .int .u32 0] 24)
        go_wp2
        go_ret
        exact ⟨rfl, hE4⟩
      · by_cases hC : l < b + n + m
        · have r1 : aftId a b n l = (a, b + n, 0) := aft_ok hA (by omega) (by omega)
          have r2 : aftId a b (n + m) l = (0, 0, 4) := aft_four hA (by omega) (by omega)
          have r3 : aftId a (b + n) m l = (0, 0, 4) := aft_four hA (by omega) (by omega)
          replace r1 := Lib.hid r1
          replace r2 := Lib.hid r2
          replace r3 := Lib.hid r3
          clear hA
          go_wp2_with fail
          refine (after_nil _ r1.out hb0 hb1 (by omega) (by omega) hl0 hl1).mono ?_
          rintro r w2 ⟨rfl, x2⟩
          have hE3 := hE2.trans x2
          replace a0 := x2.keep a0
          replace a1 := x2.keep a1
          go_wp2_with fail
          refine (after_err _ r2.out (by omega) hb0 hb1 (by omega) (by omega) hl0 hl1).mono ?_
          rintro r w3 ⟨rfl, x3⟩
          have p0 := x3.keep (p := ⟨w2.heap.size, 0, none⟩) (v := Vu a) (by simp [go_sem])
          have p1 := x3.keep (p := ⟨w2.heap.size, 1, none⟩) (v := Vu (b + n)) (by simp [go_sem])
          have hE4 := (hE3.alloc _).trans x3
          clear x2 x3 hE3 a0 a1
          generalize w2.heap.size = px at *
          go_wp2_with fail
          refine (after_err _ r3.out (by omega) (by omega) (by omega) (by omega) (by omega) hl0 hl1).mono ?_
          rintro r w4 ⟨rfl, x4⟩
          have k4 := Ext.trans ((Ext.refl w3).alloc _) x4
          replace p0 := k4.keep p0
          replace p1 := k4.keep p1
          have z0 := x4.keep (p := ⟨w3.heap.size, 0, none⟩) (v := Vu (0)) (by simp [go_sem])
          have z1 := x4.keep (p := ⟨w3.heap.size, 1, none⟩) (v := Vu (0)) (by simp [go_sem])
          have hE5 := hE4.trans k4
          clear x4 k4 hE4
          generalize w3.heap.size = pz at *
          go_wp2_with fail
          have k5 : Ext w4 (w4.alloc (Obj.cells #[.int .u32 (0), .int .u32 (0)] 24)) := (Ext.refl _).alloc _
          have y0 : (w4.alloc (Obj.cells #[.int .u32 (0), .int .u32 (0)] 24)).cell? ⟨w4.heap.size, 0, none⟩ = some (Vu (0)) := by simp [go_sem]
          have y1 : (w4.alloc (Obj.cells #[.int .u32 (0), .int .u32 (0)] 24)).cell? ⟨w4.heap.size, 1, none⟩ = some (Vu (0)) := by simp [go_sem]
          replace p0 := cell_regrown (k5.keep p0)
          replace p1 := cell_regrown (k5.keep p1)
          replace z0 := cell_regrown (k5.keep z0)
          replace z1 := cell_regrown (k5.keep z1)
          replace y0 := cell_regrown y0
          replace y1 := cell_regrown y1
          have hE6 := hE5.trans k5
          clear k5 hE5
          generalize w4.alloc (Obj.cells #[.int .u32 (0), .int .u32 (0)] 24) = W at *
          generalize w4.heap.size = py at *
          have hcm : Hid (cmpId 0 0 0 0 = 0) := rfl
          have hid : idEq 0 0 0 0 = true := rfl
          refine wp_region_quiet_below (by kernel_rfl) (by kernel_rfl) ?_
          repeat go_big_quiet_step ((first | with_reducible exact Calls.in_regrown (cmp_at hcm.out _)))
          refine wpQuiet_nil ?_
          intro _ hw'
          obtain ⟨⟨dq, osq⟩, hw''⟩ := hw'
          subst hw''
          go_wp2
          go_ret
          exact ⟨by simp, hE6.trans (Ext.regrown _ _ _)⟩
        · have r1 : aftId a b n l = (a, b + n, 0) := aft_ok hA (by omega) (by omega)
          have r2 : aftId a b (n + m) l = (a, b + n + m, 0) := by rw [Int.add_assoc]; exact aft_ok hA (by omega) (by omega)
          have r3 : aftId a (b + n) m l = (a, b + n + m, 0) := aft_ok hA (by omega) (by omega)
          have hid : idEq a (b + n + m) a (b + n + m) = true := by simp [idEq]
          replace r1 := Lib.hid r1
          replace r2 := Lib.hid r2
          replace r3 := Lib.hid r3
          have hbn : b + n ≤ 4294967295 := by omega
          clear hA
          go_wp2_with fail
          refine (after_nil _ r1.out hb0 hb1 (by omega) (by omega) hl0 hl1).mono ?_
          rintro r w2 ⟨rfl, x2⟩
          have hE3 := hE2.trans x2
          replace a0 := x2.keep a0
          replace a1 := x2.keep a1
          go_wp2_with fail
          refine (after_nil _ r2.out hb0 hb1 (by omega) (by omega) hl0 hl1).mono ?_
          rintro r w3 ⟨rfl, x3⟩
          have p0 := x3.keep (p := ⟨w2.heap.size, 0, none⟩) (v := Vu a) (by simp [go_sem])
          have p1 := x3.keep (p := ⟨w2.heap.size, 1, none⟩) (v := Vu (b + n)) (by simp [go_sem])
          have hE4 := (hE3.alloc _).trans x3
          clear x2 x3 hE3 a0 a1
          generalize w2.heap.size = px at *
          go_wp2_with fail
          refine (after_nil _ r3.out (by omega) (by omega) (by omega) (by omega) hl0 hl1).mono ?_
          rintro r w4 ⟨rfl, x4⟩
          have k4 := Ext.trans ((Ext.refl w3).alloc _) x4
          replace p0 := k4.keep p0
          replace p1 := k4.keep p1
          have z0 := x4.keep (p := ⟨w3.heap.size, 0, none⟩) (v := Vu (a)) (by simp [go_sem])
          have z1 := x4.keep (p := ⟨w3.heap.size, 1, none⟩) (v := Vu (b + n + m)) (by simp [go_sem])
          have hE5 := hE4.trans k4
          clear x4 k4 hE4
          generalize w3.heap.size = pz at *
          go_wp2_with fail
          have k5 : Ext w4 (w4.alloc (Obj.cells #[.int .u32 (a), .int .u32 (b + n + m)] 24)) := (Ext.refl _).alloc _
          have y0 : (w4.alloc (Obj.cells #[.int .u32 (a), .int .u32 (b + n + m)] 24)).cell? ⟨w4.heap.size, 0, none⟩ = some (Vu (a)) := by simp [go_sem]
          have y1 : (w4.alloc (Obj.cells #[.int .u32 (a), .int .u32 (b + n + m)] 24)).cell? ⟨w4.heap.size, 1, none⟩ = some (Vu (b + n + m)) := by simp [go_sem]
          replace p0 := cell_regrown (k5.keep p0)
          replace p1 := cell_regrown (k5.keep p1)
          replace z0 := cell_regrown (k5.keep z0)
          replace z1 := cell_regrown (k5.keep z1)
          replace y0 := cell_regrown y0
          replace y1 := cell_regrown y1
          have hE6 := hE5.trans k5
          clear k5 hE5
          generalize w4.alloc (Obj.cells #[.int .u32 (a), .int .u32 (b + n + m)] 24) = W at *
          generalize w4.heap.size = py at *
          have hlt : m ≠ 0 → cmpId a (b + n) a (b + n + m) = -1 := fun h => by unfold cmpId cmpI; rw [if_pos rfl, if_pos (by omega)]
          replace hlt := Lib.hid hlt
          generalize b + n + m = t at *
          by_cases hm : m = 0
          · have hm' : (m == 0) = true := by simpa using hm
            have hcm : Hid (cmpId 0 0 0 0 = 0) := rfl
            clear hm
            refine wp_region_quiet_below (by kernel_rfl) (by kernel_rfl) ?_
            repeat go_big_quiet_step ((first | with_reducible exact Calls.in_regrown (cmp_at hcm.out _)))
            refine wpQuiet_nil ?_
            intro _ hw'
            obtain ⟨⟨dq, osq⟩, hw''⟩ := hw'
            subst hw''
            go_wp2
            go_ret
            exact ⟨by simp, hE6.trans (Ext.regrown _ _ _)⟩
          · have hm' : (m == 0) = false := by simpa using hm
            have hcm : Hid (cmpId a (b + n) a t = -1) := hlt.out hm
            clear hm
            refine wp_region_quiet_below (by kernel_rfl) (by kernel_rfl) ?_
            repeat go_big_quiet_step ((first | with_reducible exact Calls.in_regrown (cmp_at hcm.out _)))
            refine wpQuiet_nil ?_
            intro _ hw'
            obtain ⟨⟨dq, osq⟩, hw''⟩ := hw'
            subst hw''
            go_wp2
            go_ret
            exact ⟨by simp, hE6.trans (Ext.regrown _ _ _)⟩

theorem bounds_u16 {a : Int} (h : (Lit.int .u16 a).wf = true) : 0 ≤ a ∧ a ≤ 65535 := by
  simpa [Lit.wf, IntKind.min, IntKind.max, IntKind.signed, IntKind.bits] using h

set_option maxRecDepth 100000 in
theorem order_lifted (os : Os) (started : os.Started) (H : Type) (enc : TypeId × Value → H) :
    ReturnsInHanded {} Try.checked os 4 .any (Rows.idsOrderSpec.pre6 enc Try.prog Try.f4 Rows.idsOrderRow.domain false) (Rows.idsOrderSpec.post enc Try.prog Try.f4 false true false false) := by
  refine returnsInHanded_of_change (C := Try.checked) own started (by kernel_rfl) Try.func4
    (ChangeSpec.witness6 (enc := enc) (C := Try.checked) false ⟨#[], #[idv 0 0, idv 0 0, idv 0 0, .int .u16 0, .int .u16 0, .int .u32 0], []⟩ 8 (by kernel_rfl) (by kernel_rfl) (by kernel_rfl) (by kernel_rfl)) ?_
  intro W base args ds gs before hval0 hW _ _
  have hval : ∀ (j : Nat) t v, Try.f4.params[j]? = some t → args[j]? = some v → Value.okWide Try.prog W .any base t v := hval0
  have hW' := hW
  obtain ⟨p, q, hA0, hV, rfl, _, _⟩ := hW
  have hA : DataW.TrodAll enc Try.prog W 0 (fun _ => true) true Try.f4.params.toList args.toList ds p := hA0
  rw [Try.params4] at hA hval
  obtain ⟨v0, vs0, d0, ds0, p0, q0, hargs, rfl, rfl, h0, r0⟩ := trodAll_cons hA
  obtain ⟨v1, vs1, d1, ds1, p1, q1, rfl, rfl, rfl, h1, r1⟩ := trodAll_cons r0
  obtain ⟨v2, vs2, d2, ds2, p2, q2, rfl, rfl, rfl, h2, r2⟩ := trodAll_cons r1
  obtain ⟨v3, vs3, d3, ds3, p3, q3, rfl, rfl, rfl, h3, r3⟩ := trodAll_cons r2
  obtain ⟨v4, vs4, d4, ds4, p4, q4, rfl, rfl, rfl, h4, r4⟩ := trodAll_cons r3
  obtain ⟨v5, vs5, d5, ds5, p5, q5, rfl, rfl, rfl, h5, r5⟩ := trodAll_cons r4
  obtain ⟨rfl, rfl, rfl⟩ := trodAll_nil r5
  obtain rfl : args = #[v0, v1, v2, v3, v4, v5] := by cases args; simp_all
  obtain ⟨rfl, rfl⟩ := trodVars_none hV
  obtain ⟨a, b, rfl, rfl, rfl, wa, wb⟩ := id_opens (hval 0 24 v0 rfl rfl) h0
  obtain ⟨c, d, rfl, rfl, rfl, wc, wd⟩ := id_opens (hval 1 24 v1 rfl rfl) h1
  obtain ⟨e, f, rfl, rfl, rfl, we, wf⟩ := id_opens (hval 2 24 v2 rfl rfl) h2
  obtain ⟨n, rfl, rfl, rfl, wn⟩ := open_int Try.underlying36 (hval 3 36 v3 rfl rfl) h3
  obtain ⟨m, rfl, rfl, rfl, wm⟩ := open_int Try.underlying36 (hval 4 36 v4 rfl rfl) h4
  obtain ⟨l, rfl, rfl, rfl, wl⟩ := open_int Try.underlying22 (hval 5 22 v5 rfl rfl) h5
  clear hA0 hval0
  refine (order_walk a b c d e f n m l W (bounds_u32 wb).1 (bounds_u32 wb).2 (bounds_u16 wn).1 (bounds_u16 wn).2 (bounds_u16 wm).1 (bounds_u16 wm).2 (bounds_u32 wl).1 (bounds_u32 wl).2).mono fun e W' ⟨he, hg⟩ => ?_
  subst he
  exact ⟨_, rfl, law_post hW' laid (by decide +kernel) rfl rfl rfl rfl hg (by kernel_rfl) Try.underlying4⟩

theorem order_holds : Rows.IdsOrderSaid :=
  OpenClaim.holds_of_wide 4 Try.f4 rfl rfl rfl rfl rfl rfl rfl ⟨rfl, rfl, rfl, rfl, rfl⟩ rfl rfl rfl rfl rfl (by kernel_rfl) Try.func4 (by kernel_rfl)
    (of_decide_eq_true (by kernel_rfl)) (by unfold Func.isWrapper; first | (rw [if_pos (by decide +kernel)]; kernel_rfl) | (rw [if_neg (by decide +kernel)]; exact ⟨rfl, rfl⟩))
    (fun os started H enc _ => order_lifted os started H enc)

end Go.Proofs.Ytkfnmnfebopfiaa
