/-
  For every list of entries and every list of deeds the law IndexPlays returns true, and the lists read behind the call as they read before. No condition.
-/
import Derived.Test.YtanknhalgoheeaaXPm
namespace Go.Proofs.Ytanknhalgoheeaa
open Go.ChangeShapes Go.WideShapes Go.ChangeAt Go.RowKit Go.Sort
set_option linter.unusedVariables false
attribute [local go_sem] World.cell?_alloc_some

set_option maxRecDepth 100000 in
set_option maxHeartbeats 4000000 in
theorem plays_big (w : World) (A : Option Addr) (n c : Nat) (hn1 : n ≤ maxLen) (D : Option Addr) (m cd : Nat) (hm1 : m ≤ maxLen) (h : 100 < n ∨ 40 < m) :
    Calls Try.prog 3 #[.slice A n c, .slice D m cd] w fun e w' => e = .returned (.bool true) ∧ Ext w w' := by
  have hup := Lib.hid (up7_any ix_w w)
  by_cases h1 : 100 < n
  · have g1 : decide ((100 : Int) < (n : Int)) = true := by rw [decide_eq_true_eq]; omega
    clear h
    go_enter Try.func3, Try.ntmps3
    go_wp2_with fail
    refine hup.out.mono ?_
    rintro e w0 ⟨rfl, x0⟩
    go_wp2
    go_ret
    exact ⟨rfl, x0⟩
  · have g1 : decide ((100 : Int) < (n : Int)) = false := by rw [decide_eq_false_iff_not]; omega
    have g2 : decide ((40 : Int) < (m : Int)) = true := by rw [decide_eq_true_eq]; omega
    clear h
    go_enter Try.func3, Try.ntmps3
    go_wp2_with fail
    refine hup.out.mono ?_
    rintro e w0 ⟨rfl, x0⟩
    go_wp2
    go_ret
    exact ⟨rfl, x0⟩
theorem plays_walk (w : World) (A : Option Addr) (n c : Nat) (l : List En) (hv : EnS w A l) (hn : l.length = n) (hn1 : n ≤ maxLen) (hwl : ∀ x ∈ l, wfE x)
    (D : Option Addr) (m cd : Nat) (ds : List Dd) (hd : DdS w D ds) (hm : ds.length = m) (hm1 : m ≤ maxLen) (hwd : ∀ x ∈ ds, wfD x) :
    Calls Try.prog 3 #[.slice A n c, .slice D m cd] w fun e w' => e = .returned (.bool true) ∧ Ext w w' := by
  by_cases h : 100 < n ∨ 40 < m
  · exact plays_big w A n c hn1 D m cd hm1 h
  · exact plays_small ix_w w A n c l hv hn (by omega) hwl D m cd ds hd hm (by omega) hwd

set_option maxRecDepth 100000 in
theorem plays_lifted (os : Os) (started : os.Started) (H : Type) (enc : TypeId × Value → H) :
    ReturnsInHanded {} Try.checked os 3 .any (Rows.indexPlaysSpec.pre6 enc Try.prog Try.f3 Rows.indexPlaysRow.domain false) (Rows.indexPlaysSpec.post enc Try.prog Try.f3 false true false false) := by
  refine returnsInHanded_of_change (C := Try.checked) own started (by kernel_rfl) Try.func3
    (ChangeSpec.witness6 (enc := enc) (C := Try.checked) false ⟨#[], #[.slice none 0 0, .slice none 0 0], []⟩ 8 (by kernel_rfl) (by kernel_rfl) (by kernel_rfl) (by kernel_rfl)) ?_
  intro W base args ds gs before hval0 hW _ _
  have hval : ∀ (j : Nat) t v, Try.f3.params[j]? = some t → args[j]? = some v → Value.okWide Try.prog W .any base t v := hval0
  have hW' := hW
  obtain ⟨p, q, hA0, hV, rfl, _, _⟩ := hW
  have hA : DataW.TrodAll enc Try.prog W 0 (fun _ => true) true Try.f3.params.toList args.toList ds p := hA0
  rw [Try.params3] at hA hval
  obtain ⟨v0, v1, d0, d1, p0, p1, rfl, rfl, rfl, h0, h1⟩ := trodAll_two hA
  obtain ⟨rfl, rfl⟩ := trodVars_none hV
  obtain ⟨A, n, ca, l, rfl, hn, hca, hn1, hv, hwl⟩ := entries_open (hval 0 22 v0 rfl rfl) h0
  obtain ⟨D, m, cb, r, rfl, hm, hcb, hm1, hu, hwr⟩ := deeds_open (hval 1 23 v1 rfl rfl) h1
  clear hA0 hval0
  refine (plays_walk W A n ca l hv hn hn1 hwl D m cb r hu hm hm1 hwr).mono fun e W' ⟨he, hg⟩ => ?_
  subst he
  exact ⟨_, rfl, law_post hW' laid (by decide +kernel) rfl rfl rfl rfl hg (by kernel_rfl) Try.underlying4⟩

theorem indexPlays_holds : Rows.IndexPlaysSaid :=
  OpenClaim.holds_of_wide 3 Try.f3 rfl rfl rfl rfl rfl rfl rfl ⟨rfl, rfl, rfl, rfl, rfl⟩ rfl rfl rfl rfl rfl (by kernel_rfl) Try.func3 (by kernel_rfl)
    (of_decide_eq_true (by kernel_rfl)) (by unfold Func.isWrapper; first | (rw [if_pos (by decide +kernel)]; kernel_rfl) | (rw [if_neg (by decide +kernel)]; exact ⟨rfl, rfl⟩))
    (fun os started H enc _ => plays_lifted os started H enc)

end Go.Proofs.Ytanknhalgoheeaa
