/-
  RangesTells answers true for every two lists of spans and every Id, and leaves its arguments as they were; no condition.
-/
import Derived.Test.YtiacfkipkbjmjaaRngUp
import Derived.Test.YtiacfkipkbjmjaaRngRef2
import Derived.Test.YtiacfkipkbjmjaaIds
namespace Go.Proofs.Ytiacfkipkbjmjaa
open Go.ChangeShapes Go.WideShapes Go.ChangeAt Go.RowKit Go.Sort
set_option linter.unusedVariables false
attribute [local go_sem] World.cell?_alloc_some

set_option maxRecDepth 100000 in
set_option maxHeartbeats 4000000 in
theorem rtells_walk (A B : Option Addr) (n m ca cb : Nat) (l r : List (Int × Int × Int)) (c t : Int) (w : World) (hv : SpS w A l) (hu : SpS w B r) (hn : l.length = n) (hm : r.length = m) (hca : n ≤ ca) (hcb : m ≤ cb) (hwl : wfS l) (hwr : wfS r) (hn1 : n ≤ maxLen) (hm1 : m ≤ maxLen) :
    Calls Try.prog 3 #[.slice A n ca, .slice B m cb, idv c t] w fun e w' => e = .returned (.bool true) ∧ Ext w w' := by
  unfold maxLen at hn1 hm1
  replace hv := Lib.hid hv
  replace hu := Lib.hid hu
  replace hn := Lib.hid hn
  replace hm := Lib.hid hm
  replace hwl := Lib.hid hwl
  replace hwr := Lib.hid hwr
  by_cases hbig : 60 < n
  · go_enter Try.func3, Try.ntmps3
    go_wp2_with fail
    refine (up3_any _).mono ?_
    rintro e w1 ⟨rfl, x1⟩
    go_wp2
    go_ret
    exact ⟨rfl, ((Ext.refl _).alloc _).trans x1⟩
  by_cases hbig2 : 60 < m
  · go_enter Try.func3, Try.ntmps3
    go_wp2_with fail
    refine (up3_any _).mono ?_
    rintro e w1 ⟨rfl, x1⟩
    go_wp2
    go_ret
    exact ⟨rfl, ((Ext.refl _).alloc _).trans x1⟩
  go_enter Try.func3, Try.ntmps3
  go_wp2_with fail
  refine (up3_any _).mono ?_
  rintro e w1 ⟨rfl, x1⟩
  have q0 := x1.keep (p := ⟨w.heap.size, 0, none⟩) (v := Vu c) (by simp [go_sem])
  have q1 := x1.keep (p := ⟨w.heap.size, 1, none⟩) (v := Vu t) (by simp [go_sem])
  replace x1 := ((Ext.refl w).alloc _).trans x1
  obtain ⟨pt, hpt⟩ : ∃ pt, w.heap.size = pt := ⟨_, rfl⟩
  rw [hpt] at q0 q1 ⊢
  clear hpt
  go_wp2_with fail
  refine (setOfRef_any A n ca l _ (hv.out.ext x1) hn.out hwl.out (by omega)).mono ?_
  rintro e w2 ⟨A2, n2, c2, rfl, hn2, hc2, hv2, x2⟩
  replace q0 := x2.keep q0
  replace q1 := x2.keep q1
  replace x1 := x1.trans x2
  replace hn2 := Lib.hid hn2
  replace hv2 := Lib.hid hv2
  clear x2
  go_wp2_with fail
  refine (setOfRef_any B m cb r _ (hu.out.ext x1) hm.out hwr.out (by omega)).mono ?_
  rintro e w3 ⟨A3, n3, c3, rfl, hn3, hc3, hv3, x2⟩
  replace q0 := x2.keep q0
  replace q1 := x2.keep q1
  replace x1 := x1.trans x2
  replace hv2 := Lib.hid (hv2.out.ext x2)
  replace hn3 := Lib.hid hn3
  replace hv3 := Lib.hid hv3
  clear x2
  have hl2 : n2 ≤ 60 := by
    have := setOf_len l
    rw [hn2.out, hn.out] at this
    omega
  have hl3 : n3 ≤ 60 := by
    have := setOf_len r
    rw [hn3.out, hm.out] at this
    omega
  go_wp2_with fail
  refine (of_any A n ca l _ (hv.out.ext x1) hn.out hwl.out (by omega)).mono ?_
  rintro e w4 ⟨A4, n4, c4, rfl, hn4, hc4, hv4, x2⟩
  obtain rfl : n4 = n2 := by rw [← hn4, ← hn2.out]
  replace q0 := x2.keep q0
  replace q1 := x2.keep q1
  replace x1 := x1.trans x2
  replace hv2 := Lib.hid (hv2.out.ext x2)
  replace hv3 := Lib.hid (hv3.out.ext x2)
  replace hv4 := Lib.hid hv4
  clear x2 hn4
  go_wp2_with fail
  refine (sameS_any A4 A2 n4 c4 c2 (setOfS l) _ hv4.out hv2.out hn2.out (by omega)).mono ?_
  rintro e w5 ⟨rfl, x2⟩
  replace q0 := x2.keep q0
  replace q1 := x2.keep q1
  replace x1 := x1.trans x2
  replace hv2 := Lib.hid (hv2.out.ext x2)
  replace hv3 := Lib.hid (hv3.out.ext x2)
  clear x2 hv4
  go_wp2_with fail
  refine (join_any A2 A3 n4 n3 c2 c3 (setOfS l) (setOfS r) _ hv2.out hv3.out hn2.out hn3.out hc2 hc3 (setOf_may l) (setOf_may r) (by omega)).mono ?_
  rintro e w6 ⟨A6, n6, c6, rfl, hn6, hc6, hv6, x2⟩
  rw [setOf_both] at hn6 hv6
  replace q0 := x2.keep q0
  replace q1 := x2.keep q1
  replace x1 := x1.trans x2
  replace hv2 := Lib.hid (hv2.out.ext x2)
  replace hn6 := Lib.hid hn6
  replace hv6 := Lib.hid hv6
  clear x2 hv3 hn3
  have hl6 : n6 ≤ 120 := by
    have := setOf_len (l ++ r)
    rw [hn6.out, List.length_append, hn.out, hm.out] at this
    omega
  have hwb := Lib.hid (show wfS (l ++ r) from fun p hp => (List.mem_append.1 hp).elim (hwl.out p) (hwr.out p))
  have olit : OwnS w6 (w6.alloc (Obj.cells #[] 36)) (.slice (some ⟨w6.heap.size, 0, none⟩) 0 0) [] := World.ownsRow_lit w6 #[] 0 (Nat.le_refl _) (by unfold maxLen; omega) rfl
  replace olit := Lib.hid olit
  go_wp2_with (first
    | (at_builtin
       refine wpList_append_S (w0 := w6) rfl (.tmp 34) (.tmp 35) rfl _ [] rfl olit.out ((Ext.refl _).alloc _) A n ca l rfl hn.out (hv.out.ext (x1.alloc _)) (by simp [hn.out]; omega) ?_
       intro v7 w7 o7 x7 g7)
    | (at_builtin
       refine wpList_append_S (w0 := w6) rfl (.tmp 36) (.tmp 37) rfl v7 ([] ++ l) rfl o7 x7 B m cb r rfl hm.out (hu.out.ext (x1.trans x7)) (by simp [hn.out, hm.out]; omega) ?_
       intro v8 w8 o8 x8 g8
       obtain ⟨A8, c8, e8, s8⟩ := SpS.own o8
       subst e8))
  rw [List.nil_append] at s8
  replace q0 := x8.keep q0
  replace q1 := x8.keep q1
  replace x1 := x1.trans x8
  replace hv2 := Lib.hid (hv2.out.ext x8)
  replace hv6 := Lib.hid (hv6.out.ext x8)
  replace s8 := Lib.hid s8
  clear x8 g8 o8 g7 x7 o7 olit
  refine (setOfRef_any A8 (l.length + r.length) c8 (l ++ r) _ s8.out List.length_append hwb.out (by rw [hn.out, hm.out]; omega)).mono ?_
  rintro e w9 ⟨A9, n9, c9, rfl, hn9, hc9, hv9, x2⟩
  obtain rfl : n9 = n6 := by rw [← hn9, ← hn6.out]
  replace q0 := x2.keep q0
  replace q1 := x2.keep q1
  replace x1 := x1.trans x2
  replace hv2 := Lib.hid (hv2.out.ext x2)
  replace hv6 := Lib.hid (hv6.out.ext x2)
  replace hv9 := Lib.hid hv9
  clear x2 hn9 s8
  go_wp2_with fail
  refine (sameS_any A6 A9 n9 c6 c9 (setOfS (l ++ r)) _ hv6.out hv9.out hn6.out (by omega)).mono ?_
  rintro e w10 ⟨rfl, x2⟩
  replace q0 := x2.keep q0
  replace q1 := x2.keep q1
  replace x1 := x1.trans x2
  replace hv2 := Lib.hid (hv2.out.ext x2)
  clear x2 hv6 hv9 hn6 hl6
  go_wp2_with fail
  refine (maySetRef_any A n ca l _ (hv.out.ext x1) hn.out hwl.out (by omega)).mono ?_
  rintro e w11 ⟨rfl, x2⟩
  replace q0 := x2.keep q0
  replace q1 := x2.keep q1
  replace x1 := x1.trans x2
  replace hv2 := Lib.hid (hv2.out.ext x2)
  clear x2
  have r0 := cell_regrown q0
  have r1 := cell_regrown q1
  clear q0 q1
  have k1 := Lib.hid (fun W (h : Ext w11 W) => mayR_any A n ca l W (hv.out.ext (x1.trans h)) hn.out hwl.out (by omega))
  have k2 := Lib.hid (fun W (h : Ext w11 W) => has_any A2 n4 c2 (setOfS l) c t W (hv2.out.ext h) hn2.out (setOf_may l) (by omega))
  have k3 := Lib.hid (fun W (h : Ext w11 W) => hasRef_any A2 n4 c2 (setOfS l) c t W (hv2.out.ext h) hn2.out (by omega))
  have k4 := Lib.hid (fun W (h : Ext w11 W) => count_any A2 n4 c2 (setOfS l) W (hv2.out.ext h) hn2.out (setOf_wf hwl.out) (setOf_may l) (by omega))
  have k5 := Lib.hid (fun W (h : Ext w11 W) => countRef_any A2 n4 c2 (setOfS l) W (hv2.out.ext h) hn2.out (setOf_wf hwl.out) (setOf_may l) (by omega))
  generalize maySp zS l = m1 at *
  generalize memS (setOfS l) c t = m2 at *
  generalize cntS (setOfS l) = m3 at *
  have b1 : (m1 == m1) = true := by simp
  have b2 : (m2 == m2) = true := by simp
  have b3 : (m3 == m3) = true := by simp
  go_wp2_with fail
  refine wp_region_quiet_below (by kernel_rfl) (by kernel_rfl) ?_
  repeat go_big_quiet_step ((first
    | with_reducible exact Calls.in_regrown (k1.out _ (Ext.regrown _ _ _))
    | with_reducible exact Calls.in_regrown (k2.out _ (Ext.regrown _ _ _))
    | with_reducible exact Calls.in_regrown (k3.out _ (Ext.regrown _ _ _))
    | with_reducible exact Calls.in_regrown (k4.out _ (Ext.regrown _ _ _))
    | with_reducible exact Calls.in_regrown (k5.out _ (Ext.regrown _ _ _))))
  refine wpQuiet_nil ?_
  intro _ hw'
  obtain ⟨⟨dq, osq⟩, hw''⟩ := hw'
  subst hw''
  go_wp2
  go_ret
  exact ⟨by simp, x1.trans (Ext.regrown _ _ _)⟩

set_option maxRecDepth 100000 in
theorem rtells_lifted (os : Os) (started : os.Started) (H : Type) (enc : TypeId × Value → H) :
    ReturnsInHanded {} Try.checked os 3 .any (Rows.rangesTellsSpec.pre6 enc Try.prog Try.f3 Rows.rangesTellsRow.domain false) (Rows.rangesTellsSpec.post enc Try.prog Try.f3 false true false false) := by
  refine returnsInHanded_of_change (C := Try.checked) own started (by kernel_rfl) Try.func3
    (ChangeSpec.witness6 (enc := enc) (C := Try.checked) false ⟨#[], #[.slice none 0 0, .slice none 0 0, .agg #[.int .u32 0, .int .u32 0]], []⟩ 8 (by kernel_rfl) (by kernel_rfl) (by kernel_rfl) (by kernel_rfl)) ?_
  intro W base args ds gs before hval0 hW _ _
  have hval : ∀ (j : Nat) t v, Try.f3.params[j]? = some t → args[j]? = some v → Value.okWide Try.prog W .any base t v := hval0
  have hW' := hW
  obtain ⟨p, q, hA0, hV, rfl, _, _⟩ := hW
  have hA : DataW.TrodAll enc Try.prog W 0 (fun _ => true) true Try.f3.params.toList args.toList ds p := hA0
  rw [Try.params3] at hA hval
  obtain ⟨v0, v1, v2, d0, d1, d2, p0, p1, p2, rfl, rfl, rfl, h0, h1, h2⟩ := trodAll_three hA
  obtain ⟨rfl, rfl⟩ := trodVars_none hV
  obtain ⟨A, n, ca, l, rfl, hn, hca, hn1, hv, hwl⟩ := spans_open (hval 0 22 v0 rfl rfl) h0
  obtain ⟨B, m, cb, r, rfl, hm, hcb, hm1, hu, hwr⟩ := spans_open (hval 1 22 v1 rfl rfl) h1
  obtain ⟨c, t, rfl, rfl, rfl, wc, wt⟩ := id_opens (hval 2 25 v2 rfl rfl) h2
  clear hA0 hval0
  refine (rtells_walk A B n m ca cb l r c t W hv hu hn hm hca hcb hwl hwr hn1 hm1).mono fun e W' ⟨he, hg⟩ => ?_
  subst he
  exact ⟨_, rfl, law_post hW' laid (by decide +kernel) rfl rfl rfl rfl hg (by kernel_rfl) Try.underlying4⟩

theorem rtells_holds : Rows.RangesTellsSaid :=
  OpenClaim.holds_of_wide 3 Try.f3 rfl rfl rfl rfl rfl rfl rfl ⟨rfl, rfl, rfl, rfl, rfl⟩ rfl rfl rfl rfl rfl (by kernel_rfl) Try.func3 (by kernel_rfl)
    (of_decide_eq_true (by kernel_rfl)) (by unfold Func.isWrapper; first | (rw [if_pos (by decide +kernel)]; kernel_rfl) | (rw [if_neg (by decide +kernel)]; exact ⟨rfl, rfl⟩))
    (fun os started H enc _ => rtells_lifted os started H enc)

end Go.Proofs.Ytiacfkipkbjmjaa
