/-
  VectorTells answers true for every two lists of clocks, every client and every Next, and leaves its arguments as they were; no condition.
-/
import Derived.Test.YtbniojfggiioaaaVecUp
namespace Go.Proofs.Ytbniojfggiioaaa
open Go.ChangeShapes Go.WideShapes Go.ChangeAt Go.RowKit Go.Sort
set_option linter.unusedVariables false

theorem may_is {A : Option Addr} {n cap : Nat} {l : List (Int × Int)} {w : World} {t : Bool} (ht : mayFrom 0 l = t) (hv : Vec w A l) (hn : l.length = n) (hw : wfC l) (hb : n ≤ 1000) : Calls Try.prog 7 #[.slice A n cap] w fun e w' => e = .returned (.bool t) ∧ Ext w w' := by
  rw [← ht]; exact may_any A n cap l w hv hn hw hb
theorem mayRef_is {A : Option Addr} {n cap : Nat} {l : List (Int × Int)} {w : World} {t : Bool} (ht : mayFrom 0 l = t) (hv : Vec w A l) (hn : l.length = n) (hw : wfC l) (hb : n ≤ 1000) : Calls Try.prog 6 #[.slice A n cap] w fun e w' => e = .returned (.bool t) ∧ Ext w w' := by
  rw [← ht]; exact mayRef_any A n cap l w hv hn hw hb

set_option maxRecDepth 100000 in
set_option maxHeartbeats 2000000 in
theorem vtells_walk (A B : Option Addr) (n m ca cb : Nat) (l r : List (Int × Int)) (c nx : Int) (w : World) (hv : Vec w A l) (hu : Vec w B r) (hn : l.length = n) (hm : r.length = m) (hca : n ≤ ca) (hcb : m ≤ cb) (hwl : wfC l) (hwr : wfC r) (hn1 : n ≤ maxLen) (hm1 : m ≤ maxLen) :
    Calls Try.prog 3 #[.slice A n ca, .slice B m cb, Vu c, Vu nx] w fun e w' => e = .returned (.bool true) ∧ Ext w w' := by
  unfold maxLen at hn1 hm1
  replace hv := Lib.hid hv
  replace hu := Lib.hid hu
  replace hn := Lib.hid hn
  replace hm := Lib.hid hm
  replace hwl := Lib.hid hwl
  replace hwr := Lib.hid hwr
  by_cases hbig : 100 < n
  · go_enter Try.func3, Try.ntmps3
    go_wp2_with fail
    refine (up_any _).mono ?_
    rintro e w1 ⟨rfl, x1⟩
    go_wp2
    go_ret
    exact ⟨rfl, x1⟩
  by_cases hbig2 : 100 < m
  · go_enter Try.func3, Try.ntmps3
    go_wp2_with fail
    refine (up_any _).mono ?_
    rintro e w1 ⟨rfl, x1⟩
    go_wp2
    go_ret
    exact ⟨rfl, x1⟩
  obtain ⟨t, ht⟩ : ∃ t, mayFrom 0 l = t := ⟨_, rfl⟩
  obtain ⟨s, hs⟩ : ∃ s, mayFrom 0 r = s := ⟨_, rfl⟩
  replace ht := Lib.hid ht
  replace hs := Lib.hid hs
  go_enter Try.func3, Try.ntmps3
  go_wp2_with fail
  refine (up_any _).mono ?_
  rintro e w1 ⟨rfl, x1⟩
  go_wp2_with fail
  refine (mayRef_is ht.out (hv.out.ext x1) hn.out hwl.out (by omega)).mono ?_
  rintro e w2 ⟨rfl, x2⟩
  replace x1 := x1.trans x2
  clear x2
  go_wp2_with fail
  refine (mayRef_is hs.out (hu.out.ext x1) hm.out hwr.out (by omega)).mono ?_
  rintro e w3 ⟨rfl, x2⟩
  replace x1 := x1.trans x2
  clear x2
  go_wp2_with fail
  refine (may_is ht.out (hv.out.ext x1) hn.out hwl.out (by omega)).mono ?_
  rintro e w4 ⟨rfl, x2⟩
  replace x1 := x1.trans x2
  clear x2
  cases t with
  | false =>
    go_wp2
    go_ret
    exact ⟨rfl, x1⟩
  | true =>
    cases s with
    | false =>
      go_wp2
      go_ret
      exact ⟨rfl, x1⟩
    | true =>
      go_wp2_with fail
      refine (set_any A n ca l c nx _ (hv.out.ext x1) hn.out hca ht.out (by omega)).mono ?_
      rintro e w5 ⟨A5, n5, c5, rfl, hn5, hv5, x2⟩
      replace x1 := x1.trans x2
      replace hn5 := Lib.hid hn5
      replace hv5 := Lib.hid hv5
      clear x2
      go_wp2_with fail
      refine (setRef_any A n ca l c nx _ (hv.out.ext x1) hn.out ht.out (by omega)).mono ?_
      rintro e w6 ⟨A6, n6, c6, rfl, hn6, hv6, x2⟩
      obtain rfl : n6 = n5 := by rw [← hn6, ← hn5.out]
      replace x1 := x1.trans x2
      replace hv6 := Lib.hid hv6
      clear hn6
      have hlen : n6 ≤ 102 := by
        have h := set_len l c nx
        rw [← hn5.out]
        unfold setC
        split
        · rw [hn.out]; omega
        · rw [hn.out] at h; omega
      go_wp2_with fail
      refine (same_any A5 A6 n6 c5 c6 (setC l c nx) _ (hv5.out.ext x2) hv6.out hn5.out (by omega)).mono ?_
      rintro e w7 ⟨rfl, x3⟩
      replace x1 := x1.trans x3
      clear x2 x3 hv5 hv6 hn5 hlen
      go_wp2_with fail
      refine (merge_any A B n m ca cb l r _ (hv.out.ext x1) (hu.out.ext x1) hn.out hm.out hca hcb (by omega)).mono ?_
      rintro e w8 ⟨A8, n8, c8, rfl, hn8, hv8, x2⟩
      replace x1 := x1.trans x2
      replace hn8 := Lib.hid hn8
      replace hv8 := Lib.hid hv8
      clear x2
      go_wp2_with fail
      refine (mergeRef_any A B n m ca cb l r _ (hv.out.ext x1) (hu.out.ext x1) hn.out hm.out ht.out hs.out (by omega)).mono ?_
      rintro e w9 ⟨A9, n9, c9, rfl, hn9, hv9, x2⟩
      obtain rfl : n9 = n8 := by rw [← hn9, ← hn8.out]
      replace x1 := x1.trans x2
      replace hv9 := Lib.hid hv9
      clear hn9
      have hlen : n9 ≤ 200 := by
        have h := merge_len l r
        rw [hn8.out, hn.out, hm.out] at h
        omega
      go_wp2_with fail
      refine (same_any A8 A9 n9 c8 c9 (mergeOf l r) _ (hv8.out.ext x2) hv9.out hn8.out (by omega)).mono ?_
      rintro e w10 ⟨rfl, x3⟩
      replace x1 := x1.trans x3
      clear x2 x3 hv8 hv9 hn8 hlen
      go_wp2_with fail
      refine (next_any A n ca l c _ (hv.out.ext x1) hn.out ht.out (by omega)).mono ?_
      rintro e w11 ⟨rfl, x2⟩
      replace x1 := x1.trans x2
      clear x2
      go_wp2_with fail
      refine (nextRef_any A n ca l c _ (hv.out.ext x1) hn.out (by omega)).mono ?_
      rintro e w12 ⟨rfl, rfl⟩
      go_wp2_with fail
      refine (covers_any A B n m ca cb l r _ (hv.out.ext x1) (hu.out.ext x1) hn.out hm.out ht.out (by omega) (by omega)).mono ?_
      rintro e w13 ⟨rfl, x2⟩
      replace x1 := x1.trans x2
      clear x2
      go_wp2_with fail
      refine (coversRef_any A B n m ca cb l r _ (hv.out.ext x1) (hu.out.ext x1) hn.out hm.out (by omega) (by omega)).mono ?_
      rintro e w14 ⟨rfl, x2⟩
      replace x1 := x1.trans x2
      clear x2
      go_wp2
      go_ret
      exact ⟨by simp, x1⟩

set_option maxRecDepth 100000 in
theorem vtells_lifted (os : Os) (started : os.Started) (H : Type) (enc : TypeId × Value → H) :
    ReturnsInHanded {} Try.checked os 3 .any (Rows.vectorTellsSpec.pre6 enc Try.prog Try.f3 Rows.vectorTellsRow.domain false) (Rows.vectorTellsSpec.post enc Try.prog Try.f3 false true false false) := by
  refine returnsInHanded_of_change (C := Try.checked) own started (by kernel_rfl) Try.func3
    (ChangeSpec.witness6 (enc := enc) (C := Try.checked) false ⟨#[], #[.slice none 0 0, .slice none 0 0, .int .u32 0, .int .u32 0], []⟩ 8 (by kernel_rfl) (by kernel_rfl) (by kernel_rfl) (by kernel_rfl)) ?_
  intro W base args ds gs before hval0 hW _ _
  have hval : ∀ (j : Nat) t v, Try.f3.params[j]? = some t → args[j]? = some v → Value.okWide Try.prog W .any base t v := hval0
  have hW' := hW
  obtain ⟨p, q, hA0, hV, rfl, _, _⟩ := hW
  have hA : DataW.TrodAll enc Try.prog W 0 (fun _ => true) true Try.f3.params.toList args.toList ds p := hA0
  rw [Try.params3] at hA hval
  obtain ⟨v0, v1, v2, v3, d0, d1, d2, d3, p0, p1, p2, p3, rfl, rfl, rfl, h0, h1, h2, h3⟩ := trodAll_four hA
  obtain ⟨rfl, rfl⟩ := trodVars_none hV
  obtain ⟨A, n, ca, l, rfl, hn, hca, hn1, hv, hwl⟩ := vec_opens (hval 0 22 v0 rfl rfl) h0
  obtain ⟨B, m, cb, r, rfl, hm, hcb, hm1, hu, hwr⟩ := vec_opens (hval 1 22 v1 rfl rfl) h1
  obtain ⟨c, rfl, rfl, rfl, wc⟩ := open_int Try.underlying23 (hval 2 23 v2 rfl rfl) h2
  obtain ⟨nx, rfl, rfl, rfl, wn⟩ := open_int Try.underlying23 (hval 3 23 v3 rfl rfl) h3
  clear hA0 hval0
  refine (vtells_walk A B n m ca cb l r c nx W hv hu hn hm hca hcb hwl hwr hn1 hm1).mono fun e W' ⟨he, hg⟩ => ?_
  subst he
  exact ⟨_, rfl, law_post hW' laid (by decide +kernel) rfl rfl rfl rfl hg (by kernel_rfl) Try.underlying4⟩

theorem vtells_holds : Rows.VectorTellsSaid :=
  OpenClaim.holds_of_wide 3 Try.f3 rfl rfl rfl rfl rfl rfl rfl ⟨rfl, rfl, rfl, rfl, rfl⟩ rfl rfl rfl rfl rfl (by kernel_rfl) Try.func3 (by kernel_rfl)
    (of_decide_eq_true (by kernel_rfl)) (by unfold Func.isWrapper; first | (rw [if_pos (by decide +kernel)]; kernel_rfl) | (rw [if_neg (by decide +kernel)]; exact ⟨rfl, rfl⟩))
    (fun os started H enc _ => vtells_lifted os started H enc)

end Go.Proofs.Ytbniojfggiioaaa
