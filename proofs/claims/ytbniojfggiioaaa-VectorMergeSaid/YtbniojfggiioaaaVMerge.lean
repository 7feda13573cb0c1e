/-
  VectorMerge answers true for every three lists of clocks, and leaves its arguments as they were; no condition.
-/
import Derived.Test.YtbniojfggiioaaaVecUp
namespace Go.Proofs.Ytbniojfggiioaaa
open Go.ChangeShapes Go.WideShapes Go.ChangeAt Go.RowKit Go.Sort
set_option linter.unusedVariables false

theorem mayI {A : Option Addr} {n cap : Nat} {l : List (Int × Int)} {w : World} {t : Bool} (ht : mayFrom 0 l = t) (hv : Vec w A l) (hn : l.length = n) (hw : wfC l) (hb : n ≤ 1000) : Calls Try.prog 7 #[.slice A n cap] w fun e w' => e = .returned (.bool t) ∧ Ext w w' := by
  rw [← ht]; exact may_any A n cap l w hv hn hw hb
theorem coversI {A B : Option Addr} {n m cap cap' : Nat} {l r : List (Int × Int)} {w : World} {t : Bool} (ht : coversOf l r = t) (hv : Vec w A l) (hu : Vec w B r) (hn : l.length = n) (hm : r.length = m) (hmay : mayFrom 0 l = true) (hb : n ≤ 1000) (hb' : m ≤ 1000) :
    Calls Try.prog 15 #[.slice A n cap, .slice B m cap'] w fun e w' => e = .returned (.bool t) ∧ Ext w w' := by
  rw [← ht]; exact covers_any A B n m cap cap' l r w hv hu hn hm hmay hb hb'

theorem merge_wf : ∀ (a b : List (Int × Int)), wfC a → wfC b → wfC (mergeOf a b)
  | [], b, _, hb => by rw [merge_nil]; exact hb
  | p :: a, [], ha, _ => by rw [merge_end]; exact ha
  | p :: a, q :: b, ha, hb => by
    have hp := ha p (List.mem_cons_self ..)
    have hq := hb q (List.mem_cons_self ..)
    have ha' : wfC a := fun x hx => ha x (List.mem_cons_of_mem _ hx)
    have hb' : wfC b := fun x hx => hb x (List.mem_cons_of_mem _ hx)
    rcases Int.lt_trichotomy p.1 q.1 with h | h | h
    · rw [merge_lt a b h]
      have ih := merge_wf a (q :: b) ha' hb
      intro x hx
      rcases List.mem_cons.1 hx with e | e
      · rw [e]; exact hp
      · exact ih x e
    · rw [merge_eq a b h]
      have ih := merge_wf a b ha' hb'
      intro x hx
      rcases List.mem_cons.1 hx with e | e
      · rw [e]; exact ⟨hp.1, hp.2.1, by simp only; omega, by simp only; omega⟩
      · exact ih x e
    · rw [merge_gt a b h]
      have ih := merge_wf (p :: a) b ha hb'
      intro x hx
      rcases List.mem_cons.1 hx with e | e
      · rw [e]; exact hq
      · exact ih x e
termination_by a b => a.length + b.length

set_option maxRecDepth 100000 in
set_option maxHeartbeats 4000000 in
theorem vmerge_walk (A B C : Option Addr) (n m k ca cb cc : Nat) (l r d : List (Int × Int)) (w : World) (hv : Vec w A l) (hu : Vec w B r) (hy : Vec w C d) (hn : l.length = n) (hm : r.length = m) (hk : d.length = k) (hca : n ≤ ca) (hcb : m ≤ cb)
    (hwl : wfC l) (hwr : wfC r) (hwd : wfC d) (hn1 : n ≤ maxLen) (hm1 : m ≤ maxLen) (hk1 : k ≤ maxLen) :
    Calls Try.prog 4 #[.slice A n ca, .slice B m cb, .slice C k cc] w fun e w' => e = .returned (.bool true) ∧ Ext w w' := by
  unfold maxLen at hn1 hm1 hk1
  replace hv := Lib.hid hv
  replace hu := Lib.hid hu
  replace hy := Lib.hid hy
  replace hn := Lib.hid hn
  replace hm := Lib.hid hm
  replace hk := Lib.hid hk
  replace hwl := Lib.hid hwl
  replace hwr := Lib.hid hwr
  replace hwd := Lib.hid hwd
  by_cases hbig : 100 < n
  · go_enter Try.func4, Try.ntmps4
    go_wp2_with fail
    refine (up_any _).mono ?_
    rintro e w1 ⟨rfl, x1⟩
    go_wp2
    go_ret
    exact ⟨rfl, x1⟩
  by_cases hbig2 : 100 < m
  · go_enter Try.func4, Try.ntmps4
    go_wp2_with fail
    refine (up_any _).mono ?_
    rintro e w1 ⟨rfl, x1⟩
    go_wp2
    go_ret
    exact ⟨rfl, x1⟩
  by_cases hbig3 : 100 < k
  · go_enter Try.func4, Try.ntmps4
    go_wp2_with fail
    refine (up_any _).mono ?_
    rintro e w1 ⟨rfl, x1⟩
    go_wp2
    go_ret
    exact ⟨rfl, x1⟩
  obtain ⟨t, ht⟩ : ∃ t, mayFrom 0 l = t := ⟨_, rfl⟩
  obtain ⟨s, hs⟩ : ∃ s, mayFrom 0 r = s := ⟨_, rfl⟩
  obtain ⟨u, hu1⟩ : ∃ u, mayFrom 0 d = u := ⟨_, rfl⟩
  replace ht := Lib.hid ht
  replace hs := Lib.hid hs
  replace hu1 := Lib.hid hu1
  go_enter Try.func4, Try.ntmps4
  go_wp2_with fail
  refine (up_any _).mono ?_
  rintro e w1 ⟨rfl, x1⟩
  go_wp2_with fail
  refine (mayI ht.out (hv.out.ext x1) hn.out hwl.out (by omega)).mono ?_
  rintro e w2 ⟨rfl, x2⟩
  replace x1 := x1.trans x2
  clear x2
  cases t with
  | false =>
    go_wp2
    go_ret
    exact ⟨rfl, x1⟩
  | true =>
    go_wp2_with fail
    refine (mayI hs.out (hu.out.ext x1) hm.out hwr.out (by omega)).mono ?_
    rintro e w3 ⟨rfl, x2⟩
    replace x1 := x1.trans x2
    clear x2
    cases s with
    | false =>
      go_wp2
      go_ret
      exact ⟨rfl, x1⟩
    | true =>
      go_wp2_with fail
      refine (mayI hu1.out (hy.out.ext x1) hk.out hwd.out (by omega)).mono ?_
      rintro e w4 ⟨rfl, x2⟩
      replace x1 := x1.trans x2
      clear x2
      cases u with
      | false =>
        go_wp2
        go_ret
        exact ⟨rfl, x1⟩
      | true =>
        have hLw := Lib.hid (merge_wf l r hwl.out hwr.out)
        have hLm := Lib.hid (merge_may l r ht.out hs.out)
        have hLl := merge_len l r
        rw [hn.out, hm.out] at hLl
        have hc1 := Lib.hid (covers_merge ht.out hs.out).1
        have hc2 := Lib.hid (covers_merge ht.out hs.out).2
        have hcl := Lib.hid (covers_least ht.out hs.out hu1.out)
        have hco := Lib.hid (merge_comm ht.out hs.out)
        go_wp2_with fail
        refine (merge_any A B n m ca cb l r _ (hv.out.ext x1) (hu.out.ext x1) hn.out hm.out hca hcb (by omega)).mono ?_
        rintro e w5 ⟨A5, n5, c5, rfl, hn5, hv5, x2⟩
        rw [hn5] at hLl
        replace x1 := x1.trans x2
        replace hn5 := Lib.hid hn5
        replace hv5 := Lib.hid hv5
        clear x2
        go_wp2_with fail
        refine (merge_any B A m n cb ca r l _ (hu.out.ext x1) (hv.out.ext x1) hm.out hn.out hcb hca (by omega)).mono ?_
        rintro e w6 ⟨A6, n6, c6, rfl, hn6, hv6, x2⟩
        rw [← hco.out] at hn6 hv6
        obtain rfl : n6 = n5 := by rw [← hn6, ← hn5.out]
        replace x1 := x1.trans x2
        replace hv6 := Lib.hid hv6
        replace hv5 := Lib.hid (hv5.out.ext x2)
        clear hn6 x2
        go_wp2_with fail
        refine (same_any A5 A6 n6 c5 c6 (mergeOf l r) _ hv5.out hv6.out hn5.out (by omega)).mono ?_
        rintro e w7 ⟨rfl, x2⟩
        replace x1 := x1.trans x2
        replace hv5 := Lib.hid (hv5.out.ext x2)
        clear x2 hv6
        generalize mergeOf l r = L at *
        go_wp2_with fail
        refine (mayI hLm.out hv5.out hn5.out hLw.out (by omega)).mono ?_
        rintro e w8 ⟨rfl, x2⟩
        replace x1 := x1.trans x2
        replace hv5 := Lib.hid (hv5.out.ext x2)
        clear x2
        go_wp2_with fail
        refine (coversI hc1.out hv5.out (hv.out.ext x1) hn5.out hn.out hLm.out (by omega) (by omega)).mono ?_
        rintro e w9 ⟨rfl, x2⟩
        replace x1 := x1.trans x2
        replace hv5 := Lib.hid (hv5.out.ext x2)
        clear x2
        go_wp2_with fail
        refine (coversI hc2.out hv5.out (hu.out.ext x1) hn5.out hm.out hLm.out (by omega) (by omega)).mono ?_
        rintro e w10 ⟨rfl, x2⟩
        replace x1 := x1.trans x2
        replace hv5 := Lib.hid (hv5.out.ext x2)
        clear x2
        obtain ⟨y1, hy1⟩ : ∃ y, coversOf d l = y := ⟨_, rfl⟩
        obtain ⟨y2, hy2⟩ : ∃ y, coversOf d r = y := ⟨_, rfl⟩
        replace hy1 := Lib.hid hy1
        replace hy2 := Lib.hid hy2
        go_wp2_with fail
        refine (coversI hy1.out (hy.out.ext x1) (hv.out.ext x1) hk.out hn.out hu1.out (by omega) (by omega)).mono ?_
        rintro e w11 ⟨rfl, x2⟩
        replace x1 := x1.trans x2
        replace hv5 := Lib.hid (hv5.out.ext x2)
        clear x2
        cases y1 with
        | false =>
          go_wp2
          go_ret
          exact ⟨rfl, x1⟩
        | true =>
          go_wp2_with fail
          refine (coversI hy2.out (hy.out.ext x1) (hu.out.ext x1) hk.out hm.out hu1.out (by omega) (by omega)).mono ?_
          rintro e w12 ⟨rfl, x2⟩
          replace x1 := x1.trans x2
          replace hv5 := Lib.hid (hv5.out.ext x2)
          clear x2
          cases y2 with
          | false =>
            go_wp2
            go_ret
            exact ⟨rfl, x1⟩
          | true =>
            have hcl' := Lib.hid (hcl.out hy1.out hy2.out)
            clear hcl
            go_wp2_with fail
            refine (coversI hcl'.out (hy.out.ext x1) hv5.out hk.out hn5.out hu1.out (by omega) (by omega)).mono ?_
            rintro e w13 ⟨rfl, x2⟩
            replace x1 := x1.trans x2
            clear x2
            go_wp2
            go_ret
            exact ⟨rfl, x1⟩

set_option maxRecDepth 100000 in
theorem vmerge_lifted (os : Os) (started : os.Started) (H : Type) (enc : TypeId × Value → H) :
    ReturnsInHanded {} Try.checked os 4 .any (Rows.vectorMergeSpec.pre6 enc Try.prog Try.f4 Rows.vectorMergeRow.domain false) (Rows.vectorMergeSpec.post enc Try.prog Try.f4 false true false false) := by
  refine returnsInHanded_of_change (C := Try.checked) own started (by kernel_rfl) Try.func4
    (ChangeSpec.witness6 (enc := enc) (C := Try.checked) false ⟨#[], #[.slice none 0 0, .slice none 0 0, .slice none 0 0], []⟩ 8 (by kernel_rfl) (by kernel_rfl) (by kernel_rfl) (by kernel_rfl)) ?_
  intro W base args ds gs before hval0 hW _ _
  have hval : ∀ (j : Nat) t v, Try.f4.params[j]? = some t → args[j]? = some v → Value.okWide Try.prog W .any base t v := hval0
  have hW' := hW
  obtain ⟨p, q, hA0, hV, rfl, _, _⟩ := hW
  have hA : DataW.TrodAll enc Try.prog W 0 (fun _ => true) true Try.f4.params.toList args.toList ds p := hA0
  rw [Try.params4] at hA hval
  obtain ⟨v0, v1, v2, d0, d1, d2, p0, p1, p2, rfl, rfl, rfl, h0, h1, h2⟩ := trodAll_three hA
  obtain ⟨rfl, rfl⟩ := trodVars_none hV
  obtain ⟨A, n, ca, l, rfl, hn, hca, hn1, hv, hwl⟩ := vec_opens (hval 0 22 v0 rfl rfl) h0
  obtain ⟨B, m, cb, r, rfl, hm, hcb, hm1, hu, hwr⟩ := vec_opens (hval 1 22 v1 rfl rfl) h1
  obtain ⟨C, k, cc, d, rfl, hk, hcc, hk1, hy, hwd⟩ := vec_opens (hval 2 22 v2 rfl rfl) h2
  clear hA0 hval0
  refine (vmerge_walk A B C n m k ca cb cc l r d W hv hu hy hn hm hk hca hcb hwl hwr hwd hn1 hm1 hk1).mono fun e W' ⟨he, hg⟩ => ?_
  subst he
  exact ⟨_, rfl, law_post hW' laid (by decide +kernel) rfl rfl rfl rfl hg (by kernel_rfl) Try.underlying4⟩

theorem vmerge_holds : Rows.VectorMergeSaid :=
  OpenClaim.holds_of_wide 4 Try.f4 rfl rfl rfl rfl rfl rfl rfl ⟨rfl, rfl, rfl, rfl, rfl⟩ rfl rfl rfl rfl rfl (by kernel_rfl) Try.func4 (by kernel_rfl)
    (of_decide_eq_true (by kernel_rfl)) (by unfold Func.isWrapper; first | (rw [if_pos (by decide +kernel)]; kernel_rfl) | (rw [if_neg (by decide +kernel)]; exact ⟨rfl, rfl⟩))
    (fun os started H enc _ => vmerge_lifted os started H enc)

end Go.Proofs.Ytbniojfggiioaaa
