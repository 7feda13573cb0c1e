/-
  For every list of entries and every number the law IndexKeeps returns true, and the list reads behind the call as it read before. No condition.
-/
import Derived.Test.YtanknhalgoheeaaXKp
import Derived.SizedLaws
namespace Go.Proofs.Ytanknhalgoheeaa
open Go.ChangeShapes Go.WideShapes Go.ChangeAt Go.RowKit Go.Sort
set_option linter.unusedVariables false
attribute [local go_sem] World.cell?_alloc_some

/-- how long a slice's reading is -/
theorem slice_len {H : Type} {enc : TypeId × Value → H} {W : World} {base : Nat} {sp : Nat → Bool} {hd : Bool} {T E : TypeId} (hT : Try.prog.underlying T = some (.slice E)) {A : Option Addr} {n c : Nat} {d : DataW H} {p : List MemPlace}
    (h : DataW.Trod enc Try.prog W base sp hd T (.slice A n c) d p) : n = 0 ∨ ∃ elems spare, d = .slice elems spare ∧ elems.length = n := by
  obtain ⟨fuel, hf⟩ := h
  have hf' : DataW.trod enc Try.prog W base sp hd fuel T [.slice A n c] = some (d, p) := hf
  rcases Go.Deep.open_slice hT hf' with ⟨e, _⟩ | ⟨a', len', cap', m, n', D, Pl, e, _, hl, hm, hmm, hx, hi⟩
  · injection e with e
    injection e with e1 e2 e3
    exact .inl e2
  · injection e with e
    injection e with e1 e2 e3
    injection hx with hx1 hx2
    exact .inr ⟨_, _, hx1, by rw [e2]; simp⟩

set_option maxRecDepth 100000 in
theorem keeps_lifted (os : Os) (started : os.Started) (H : Type) (enc : TypeId × Value → H) :
    ReturnsInHanded {} Try.checked os 4 .any (Rows.indexKeepsSpec.pre6 enc Try.prog Try.f4 Rows.indexKeepsRow.domain false) (Rows.indexKeepsSpec.post enc Try.prog Try.f4 false true false false) := by
  refine returnsInHanded_of_change_sized (C := Try.checked) own started (by kernel_rfl) Try.func4
    (ChangeSpec.witness6 (enc := enc) (C := Try.checked) false ⟨#[], #[.slice none 0 0, .int .i64 0], []⟩ 8 (by kernel_rfl) (by kernel_rfl) (by kernel_rfl) (by kernel_rfl)) ?_
  intro W base args ds gs before hval0 hW _ hsz _
  have hval : ∀ (j : Nat) t v, Try.f4.params[j]? = some t → args[j]? = some v → Value.okWide Try.prog W .any base t v := hval0
  have hW' := hW
  obtain ⟨p, q, hA0, hV, rfl, _, _⟩ := hW
  have hA : DataW.TrodAll enc Try.prog W 0 (fun _ => true) true Try.f4.params.toList args.toList ds p := hA0
  have hs0 : (DataW.weightsEach Try.prog (Try.f4.params.toList ++ Rows.indexKeepsSpec.plain.varTypes Try.prog) (ds ++ gs)).all (· ≤ reachBytes) = true := hsz
  rw [Try.params4] at hA hval hs0
  obtain ⟨v0, v1, d0, d1, p0, p1, rfl, rfl, rfl, h0, h1⟩ := trodAll_two hA
  obtain ⟨rfl, rfl⟩ := trodVars_none hV
  obtain ⟨A, n, ca, l, rfl, hn, hca, hn1, hv, hwl⟩ := entries_open (hval 0 22 v0 rfl rfl) h0
  obtain ⟨z, rfl, rfl, rfl, wz⟩ := open_int Try.underlying3 (hval 1 3 v1 rfl rfl) h1
  have hb : n ≤ 8796093022208 := by
    rcases slice_len Try.underlying22 h0 with h | ⟨elems, spare, rfl, he⟩
    · omega
    · have hz := sized_slice hs0 (j := 0) rfl rfl Try.underlying22
      have hby : Try.prog.bytesOf 38 = 16 := by kernel_rfl
      rw [hby, he] at hz
      have hr : reachBytes = 140737488351232 := rfl
      rw [hr] at hz
      omega
  clear hA0 hval0 hsz hs0
  refine (keeps_walk W A n ca l hv hn hb hwl z (bounds_i64 wz)).mono fun e W' ⟨he, hg⟩ => ?_
  subst he
  exact ⟨_, rfl, law_post hW' laid (by decide +kernel) rfl rfl rfl rfl hg (by kernel_rfl) Try.underlying4⟩

theorem indexKeeps_holds : Rows.IndexKeepsSaid :=
  OpenClaim.holds_of_wide 4 Try.f4 rfl rfl rfl rfl rfl rfl rfl ⟨rfl, rfl, rfl, rfl, rfl⟩ rfl rfl rfl rfl rfl (by kernel_rfl) Try.func4 (by kernel_rfl)
    (of_decide_eq_true (by kernel_rfl)) (by unfold Func.isWrapper; first | (rw [if_pos (by decide +kernel)]; kernel_rfl) | (rw [if_neg (by decide +kernel)]; exact ⟨rfl, rfl⟩))
    (fun os started H enc _ => keeps_lifted os started H enc)

end Go.Proofs.Ytanknhalgoheeaa
