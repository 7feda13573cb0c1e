/-
  WireBack answers true for every number, every text, all bytes ahead and behind and every cut, and leaves its arguments as they were; where the arguments hold together at most 1048576 values and letters, and under the variables of unicode/utf8 that its card lists, as the program's text lays them.
-/
import Derived.Test.YtfdbcekdbffibaaDoorOpn
import Derived.Test.YtfdbcekdbffibaaDoorWBw
namespace Go.Proofs.YtfdbcekdbffibaaDoor
open Go.ChangeShapes Go.WideShapes Go.ChangeAt Go.RowKit Go.Sort
set_option linter.unusedVariables false

theorem bulk_part {H : Type} {d : DataW H} : ∀ {l : List (DataW H)}, d ∈ l → Rows.uptoBulk d ≤ Rows.uptoBulkAll l
  | [], h => by cases h
  | x :: r, h => by
    simp only [Rows.uptoBulkAll]
    rcases List.mem_cons.1 h with e | e
    · subst e; omega
    · have := bulk_part e; omega

theorem wback_walk (v : Int) (hv : 0 ≤ v ∧ v ≤ 4294967295) (s : ByteArray) (hs : s.size ≤ 1048576) (A B : Option Addr) (na ca nb cb : Nat) (al bl : List UInt8) (cut : Int) (w : World) (hA : Bys w A al) (hla : al.length = na) (hna : na ≤ maxLen) (hB : Bys w B bl) (hlb : bl.length = nb) (hcb : nb ≤ cb) (hnb : nb ≤ maxLen) (hT : Tabs w) :
    Calls Tryd.prog 4 #[Vu v, .string s, .slice A na ca, .slice B nb cb, Vi cut] w fun e w' => e = .returned (.bool true) ∧ Ext w w' := by
  obtain ⟨u, rfl⟩ : ∃ u : Nat, v = u := ⟨v.toNat, by omega⟩
  by_cases hlet : 300 < s.size ∨ 300 < na ∨ 300 < nb ∨ Lib.validD s.data.toList = false
  · exact wback_let u s hs A B na ca nb cb cut w hna hnb hlet
  · have hval : Lib.validD s.data.toList = true := by
      cases h : Lib.validD s.data.toList with
      | true => rfl
      | false => exact absurd (.inr (.inr (.inr h))) hlet
    have h1 : ¬ 300 < s.size := fun h => hlet (.inl h)
    have h2 : ¬ 300 < na := fun h => hlet (.inr (.inl h))
    have h3 : ¬ 300 < nb := fun h => hlet (.inr (.inr (.inl h)))
    exact wback_small u (by omega) s (by omega) A B na ca nb cb al bl cut w hA hla hB hlb hcb (by omega) (by omega) hval hT

theorem wback_contract (H : Type) (enc : TypeId × Value → H) (W : World) (base : Nat) (args : Array Value) (ds gs : List (DataW H)) (before : List MemPlace)
    (hval0 : ∀ (j : Nat) t v, Tryd.f4.params[j]? = some t → args[j]? = some v → Value.okWide Tryd.prog W .any base t v)
    (hW : DataW.Whole enc Tryd.prog Tryd.f4.params.toList Rows.wireBackSpec.vars false W args.toList ds gs before) (hL : laidMet Tryd.prog laidTabs W) (hk : Rows.uptoSmall H (ds ++ gs) = true) :
    Calls Tryd.prog 4 args W fun e W' => ∃ v, e = .returned v ∧ Rows.wireBackSpec.post enc Tryd.prog Tryd.f4 false true false false W args v W' := by
  have hval : ∀ (j : Nat) t v, Tryd.f4.params[j]? = some t → args[j]? = some v → Value.okWide Tryd.prog W .any base t v := hval0
  have hW' := hW
  obtain ⟨p, q, hA0, hV, rfl, _, _⟩ := hW
  have hA : DataW.TrodAll enc Tryd.prog W 0 (fun _ => true) true Tryd.f4.params.toList args.toList ds p := hA0
  rw [Tryd.params4] at hA hval
  obtain ⟨v0, vs0, d0, ds0, p0, q0, hargs, rfl, rfl, h0, r0⟩ := trodAll_cons hA
  obtain ⟨v1, vs1, d1, ds1, p1, q1, rfl, rfl, rfl, h1, r1⟩ := trodAll_cons r0
  obtain ⟨v2, vs2, d2, ds2, p2, q2, rfl, rfl, rfl, h2, r2⟩ := trodAll_cons r1
  obtain ⟨v3, vs3, d3, ds3, p3, q3, rfl, rfl, rfl, h3, r3⟩ := trodAll_cons r2
  obtain ⟨v4, vs4, d4, ds4, p4, q4, rfl, rfl, rfl, h4, r4⟩ := trodAll_cons r3
  obtain ⟨rfl, rfl, rfl⟩ := trodAll_nil r4
  obtain rfl : args = #[v0, v1, v2, v3, v4] := by cases args; simp_all
  obtain ⟨rfl, rfl⟩ := trodVars_none hV
  obtain ⟨x, rfl, rfl, rfl, wx⟩ := open_int Tryd.underlying22 (hval 0 22 v0 rfl rfl) h0
  obtain ⟨s, rfl, rfl, rfl, ws⟩ := Go.ChangeMaps.open_string Tryd.underlying9 (hval 1 9 v1 rfl rfl) h1
  obtain ⟨A, na, ca, al, rfl, hla, _, hna, hba⟩ := bytes_open (hval 2 23 v2 rfl rfl) h2
  obtain ⟨B, nb, cb, bl, rfl, hlb, hcb, hnb, hbb⟩ := bytes_open (hval 3 23 v3 rfl rfl) h3
  obtain ⟨y, rfl, rfl, rfl, wy⟩ := open_int Tryd.underlying3 (hval 4 3 v4 rfl rfl) h4
  have hs : s.size ≤ 1048576 := by
    have hk' := of_decide_eq_true hk
    have h5 := bulk_part (d := (.lit (.string s.data.toList) : DataW H)) (l := [.lit (.int .u32 x), .lit (.string s.data.toList), d2, d3, .lit (.int .i64 y)] ++ []) (by simp)
    simp only [Rows.uptoBulk, ← Lib.size_eq] at h5
    exact Nat.le_trans (Nat.le_trans (Nat.le_succ _) h5) hk'
  clear hA0 hval0
  refine (wback_walk x (bounds_u32 wx) s hs A B na ca nb cb al bl y W hba hla hna hbb hlb hcb hnb (tabs_of hL)).mono fun e W' ⟨he, hg⟩ => ?_
  subst he
  exact ⟨_, rfl, law_post hW' laid (by decide +kernel) rfl rfl rfl rfl hg (by kernel_rfl) Tryd.underlying4⟩

theorem wback_reads (os : Os) {H : Type} (enc : TypeId × Value → H) : ∃ places, DataW.whole enc Tryd.prog ((laidWorld os).forCall (fun _ _ => 0) ⟨#[], #[.int .u32 0, .string ⟨#[]⟩, .slice none 0 0, .slice none 0 0, .int .i64 0], []⟩).memory Tryd.f4.params.toList Rows.wireBackSpec.vars false #[Value.int .u32 0, .string ⟨#[]⟩, .slice none 0 0, .slice none 0 0, .int .i64 0].toList 8 = some ([.lit (.int .u32 0), .lit (.string []), .nil, .nil, .lit (.int .i64 0)], [], places) :=
  ⟨[], by kernel_rfl⟩

set_option maxRecDepth 100000 in
theorem wback_lifted (os : Os) (started : os.Started) (H : Type) (enc : TypeId × Value → H) (F : Stop.Interp) :
    ReturnsInHanded {} Tryd.checked os 4 .any ((Rows.OpenSpec.upto Rows.wireBackSpec).preRow enc Tryd.prog Tryd.f4 Rows.wireBackUptoRow.domain false Rows.wireBackUptoRow.laid) (((Rows.OpenSpec.upto Rows.wireBackSpec).at F).post enc Tryd.prog Tryd.f4 false true false false) := by
  obtain ⟨places, hx⟩ := wback_reads os enc
  refine returnsInHanded_of_row (C := Tryd.checked) (s := Rows.OpenSpec.upto Rows.wireBackSpec) own started (by kernel_rfl) Tryd.func4
    (witness_row_at (enc := enc) (C := Tryd.checked) false (laidWorld os) #[.int .u32 0, .string ⟨#[]⟩, .slice none 0 0, .slice none 0 0, .int .i64 0] (World.laidAll_os _ _ _) (by kernel_rfl) (by kernel_rfl) (by kernel_rfl)
      (OpenSpec.preRow_of_cond 8 hx (by kernel_rfl) (fun k hk => by cases hk; kernel_rfl) (by kernel_rfl) (laid_met os _))) ?_
  intro W base args ds gs before hval hW _ hcond _ hL _ _
  exact wback_contract H enc W base args ds gs before hval hW (by first | exact hL | (rw [MakeChecks.laidMetH_plain _ _ _ (by kernel_rfl)] at hL; exact hL)) (hcond _ rfl)

theorem wback_said : Rows.WireBackUptoSaid :=
  OpenClaim.holds_of_cond 4 Tryd.f4 rfl rfl rfl rfl rfl rfl rfl ⟨rfl, rfl, rfl, rfl, rfl⟩ rfl rfl rfl rfl rfl (by kernel_rfl) Tryd.func4 (by kernel_rfl)
    (of_decide_eq_true (by kernel_rfl)) (by unfold Func.isWrapper; first | (rw [if_pos (by decide +kernel)]; kernel_rfl) | (rw [if_neg (by decide +kernel)]; exact ⟨rfl, rfl⟩))
    (fun os started H enc _ F => by rw [OpenClaim.pre_eq_preRow]; exact wback_lifted os started H enc F)

theorem wback_plain (f : FuncId) (fn : Func) (hf : Tryd.pinned.checked.prog.funcNamed "surcingle/surcinglelaw04.WireBack" = some f) (hfn : Tryd.pinned.checked.prog.funcs[f]? = some fn) :
    true = Tryd.pinned.checked.prog.looks [] ∧ ∀ (j : Nat) t, fn.params[j]? = some t → Tryd.pinned.checked.prog.wantsStandIn t = false := by
  obtain rfl : f = 4 := Option.some.inj ((show Tryd.prog.funcNamed "surcingle/surcinglelaw04.WireBack" = some 4 by kernel_rfl).symm.trans hf) |>.symm
  obtain rfl : fn = Tryd.f4 := (Option.some.inj (Tryd.func4.symm.trans hfn)).symm
  refine ⟨by kernel_rfl, fun j t ht => ?_⟩
  rw [Tryd.params4] at ht
  have hm : t ∈ [22, 9, 23, 23, 3] := by simpa using Array.mem_of_getElem? ht
  have hall : ([22, 9, 23, 23, 3].all fun u => !Tryd.prog.wantsStandIn u) = true := by kernel_rfl
  exact (show Tryd.prog.wantsStandIn t = false by simpa using List.all_eq_true.1 hall t hm)

theorem wback_card : Rows.WireBackUptoCardSaid :=
  Claim7.holds_tied_plain_at .later [] _ _ _ _ wback_said (fun _ h => by cases h) (by kernel_rfl) (fun _ h => by cases h) wireBackUpto_row_tie rfl ⟨rfl, rfl⟩ (by kernel_rfl) rfl wback_plain (by kernel_rfl)

end Go.Proofs.YtfdbcekdbffibaaDoor
