/-
  For every list of items and every two lists of ints the law ListOrders returns true, and all of them read behind the call as they read before. No condition.
-/
import Derived.SizedLaws
import Derived.Test.YtmpomammieenjaaOH2
import Derived.Test.YtmpomammieenjaaLOrO
namespace Go.Proofs.Ytmpomammieenjaa
open Go.ChangeShapes Go.WideShapes Go.ChangeAt Go.RowKit Go.Sort
set_option linter.unusedVariables false
set_option linter.unusedSimpArgs false

theorem slice_lenL {H : Type} {enc : TypeId × Value → H} {W : World} {base : Nat} {sp : Nat → Bool} {hd : Bool} {T E : TypeId} (hT : Try.prog.underlying T = some (.slice E)) {A : Option Addr} {n c : Nat} {d : DataW H} {p : List MemPlace}
    (h : DataW.Trod enc Try.prog W base sp hd T (.slice A n c) d p) : n = 0 ∨ ∃ elems spare, d = .slice elems spare ∧ elems.length = n := by
  obtain ⟨fuel, hf⟩ := h
  have hf' : DataW.trod enc Try.prog W base sp hd fuel T [.slice A n c] = some (d, p) := hf
  rcases Go.Deep.open_slice hT hf' with ⟨e, _⟩ | ⟨a', len', cap', m, n', D, Pl, e, _, hl, hm, hmm, hx, hi⟩
  · injection e with e
    injection e with e1 e2 e3
    exact .inl e2
  · injection e with e
    injection e with e1 e2 e3
    injection hx with hx1 hx2
    exact .inr ⟨_, _, hx1, by rw [e2]; simp⟩


set_option maxRecDepth 100000 in
theorem listOrders_lifted (os : Os) (started : os.Started) (H : Type) (enc : TypeId × Value → H) :
    ReturnsInHanded {} Try.checked os 5 .any (Rows.listOrdersSpec.pre6 enc Try.prog Try.f5 Rows.listOrdersRow.domain false) (Rows.listOrdersSpec.post enc Try.prog Try.f5 false true false false) := by
  refine returnsInHanded_of_change_sized (C := Try.checked) own started (by kernel_rfl) Try.func5
    (ChangeSpec.witness6 (enc := enc) (C := Try.checked) false ⟨#[], #[.slice none 0 0, .slice none 0 0, .slice none 0 0], []⟩ 8 (by kernel_rfl) (by kernel_rfl) (by kernel_rfl) (by kernel_rfl)) ?_
  intro W base args ds gs before hval0 hW _ hsz _
  have hval : ∀ (j : Nat) t v, Try.f5.params[j]? = some t → args[j]? = some v → Value.okWide Try.prog W .any base t v := hval0
  have hW' := hW
  obtain ⟨p, q, hA0, hV, rfl, _, _⟩ := hW
  have hA : DataW.TrodAll enc Try.prog W 0 (fun _ => true) true Try.f5.params.toList args.toList ds p := hA0
  have hs0 : (DataW.weightsEach Try.prog (Try.f5.params.toList ++ Rows.listOrdersSpec.plain.varTypes Try.prog) (ds ++ gs)).all (· ≤ reachBytes) = true := hsz
  rw [Try.params5] at hA hval hs0
  obtain ⟨v0, v1, v2, d0, d1, d2, p0, p1, p2, rfl, rfl, rfl, h0, h1, h2⟩ := trodAll_three hA
  obtain ⟨rfl, rfl⟩ := trodVars_none hV
  obtain ⟨A, n, ca, l, rfl, hn, hca, hn1, hv, hwl⟩ := items_open (hval 0 35 v0 rfl rfl) h0
  obtain ⟨Ap, np, cp, picks, rfl, hpn, hp⟩ := intsR_open (hval 1 58 v1 rfl rfl) h1
  obtain ⟨Ag, ng, cg, gone, rfl, hgn, hg⟩ := intsR_open (hval 2 58 v2 rfl rfl) h2
  have hb : n ≤ 5026338869800 := by
    rcases slice_lenL Try.underlying35 h0 with h | ⟨elems, spare, rfl, he⟩
    · omega
    · have hz := sized_slice hs0 (j := 0) rfl rfl Try.underlying35
      have hby : Try.prog.bytesOf 43 = 28 := by kernel_rfl
      rw [hby, he] at hz
      have hr : reachBytes = 140737488351232 := rfl
      rw [hr] at hz
      omega
  clear hA0 hval0 hsz hs0
  refine (listOrders_walk ls_w A Ap Ag n ca np cp ng cg l picks gone W hv hn hb hwl hp hpn hg hgn).mono fun e W' ⟨he, hg⟩ => ?_
  subst he
  exact ⟨_, rfl, law_post hW' laid (by decide +kernel) rfl rfl rfl rfl hg (by kernel_rfl) Try.underlying4⟩

theorem listOrders_holds : Rows.ListOrdersSaid :=
  OpenClaim.holds_of_wide 5 Try.f5 rfl rfl rfl rfl rfl rfl rfl ⟨rfl, rfl, rfl, rfl, rfl⟩ rfl rfl rfl rfl rfl (by kernel_rfl) Try.func5 (by kernel_rfl)
    (of_decide_eq_true (by kernel_rfl)) (by unfold Func.isWrapper; first | (rw [if_pos (by decide +kernel)]; kernel_rfl) | (rw [if_neg (by decide +kernel)]; exact ⟨rfl, rfl⟩))
    (fun os started H enc _ => listOrders_lifted os started H enc)

end Go.Proofs.Ytmpomammieenjaa
