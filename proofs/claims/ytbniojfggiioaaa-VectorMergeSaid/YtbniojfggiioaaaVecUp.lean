/-
  The head of layer 2's statements, and what opens their arguments; no claim stands here.
-/
import Derived.Test.YtbniojfggiioaaaVecMrg
import Derived.Test.YtbniojfggiioaaaVecMrgRef
import Derived.Deep.SlicePairs
namespace Go.Proofs.Ytbniojfggiioaaa
open Go.ChangeShapes Go.WideShapes Go.ChangeAt Go.RowKit Go.Sort
set_option linter.unusedVariables false
attribute [local go_sem] World.cell?_alloc_some

/-- the document's example -/
theorem up_any (w : World) : Calls Try.prog 5 #[] w fun e w' => e = .returned (.bool true) ∧ Ext w w' := by
  have h1 := Lib.hid (set_any none 0 0 [] 5 2 w (Vec.nil _ _) rfl (Nat.le_refl _) rfl (by omega))
  have e1 : setC [] 5 2 = [(5, 2)] := rfl
  rw [e1] at h1
  clear e1
  go_enter Try.func5, Try.ntmps5
  go_wp2_with fail
  refine h1.out.mono ?_
  rintro e w1 ⟨A, n, c, rfl, hn, hv, x1⟩
  obtain rfl : n = 1 := hn.symm
  replace hv := Lib.hid hv
  go_wp2_with fail
  refine (same_any A _ 1 c 1 [(5, 2)] _ (hv.out.ext ((Ext.refl _).alloc _)) (Vec.new w1 5 2) rfl (by omega)).mono ?_
  rintro e w2 ⟨rfl, x2⟩
  have k2 := ((Ext.refl w1).alloc _).trans x2
  have hv2 := Lib.hid (hv.out.ext k2)
  go_wp2_with fail
  refine (may_any A 1 c [(5, 2)] w2 hv2.out rfl (by intro p hp; simp at hp; subst hp; simp) (by omega)).mono ?_
  rintro e w3 ⟨rfl, x3⟩
  rw [show mayFrom 0 [(5, 2)] = true from rfl]
  have hv3 := Lib.hid (hv2.out.ext x3)
  go_wp2_with fail
  refine (next_any A 1 c [(5, 2)] 5 w3 hv3.out rfl rfl (by omega)).mono ?_
  rintro e w4 ⟨rfl, x4⟩
  rw [show nextOf [(5, 2)] 5 = 2 from rfl]
  have hv4 := Lib.hid (hv3.out.ext x4)
  go_wp2_with fail
  refine (covers_any A none 1 0 c 0 [(5, 2)] [] w4 hv4.out (Vec.nil _ _) rfl rfl rfl (by omega) (by omega)).mono ?_
  rintro e w5 ⟨rfl, x5⟩
  rw [show coversOf [(5, 2)] [] = true from rfl]
  have hv5 := Lib.hid (hv4.out.ext x5)
  go_wp2_with fail
  refine (covers_any none A 0 1 0 c [] [(5, 2)] w5 (Vec.nil _ _) hv5.out rfl rfl rfl (by omega) (by omega)).mono ?_
  rintro e w6 ⟨rfl, x6⟩
  rw [show coversOf [] [(5, 2)] = false from rfl]
  go_wp2
  go_ret
  exact ⟨rfl, ((((x1.trans k2).trans x3).trans x4).trans x5).trans x6⟩

theorem bounds_u32 {a : Int} (h : (Lit.int .u32 a).wf = true) : 0 ≤ a ∧ a ≤ 4294967295 := by
  simpa [Lit.wf, IntKind.min, IntKind.max, IntKind.signed, IntKind.bits] using h
theorem own : ownKnob Try.prog.godebug = Option.none := by kernel_rfl
theorem laid : laidOutB Try.prog = true := by kernel_rfl

/-- a slice of clocks, opened -/
theorem vec_opens {H : Type} {enc : TypeId × Value → H} {W : World} {base b0 : Nat} {sp : Nat → Bool} {hd : Bool} {r : Reach} {v : Value} {d : DataW H} {p : List MemPlace} (hv : Value.okWide Try.prog W r b0 22 v) (h : DataW.Trod enc Try.prog W base sp hd 22 v d p) :
    ∃ (A : Option Addr) (n cap : Nat) (l : List (Int × Int)), v = .slice A n cap ∧ l.length = n ∧ n ≤ cap ∧ n ≤ maxLen ∧ Vec W A l ∧ wfC l := by
  obtain ⟨a, len, cap, rfl⟩ := okWide_slice Try.underlying22 hv
  obtain ⟨fuel, hf⟩ := h
  have hf' : DataW.trod enc Try.prog W base sp hd fuel 22 [.slice a len cap] = some (d, p) := hf
  rcases Go.Deep.open_slice_pairs Try.underlying22 Try.underlying33 (by kernel_rfl) rfl rfl (by kernel_rfl) (by kernel_rfl) hf' with ⟨e, _⟩ | ⟨a', len', cap', m, n, V0, V1, D0, D1, P0, P1, e, _, hl, hm, hmm, _, hi⟩
  · injection e with e
    injection e with e1 e2 e3
    subst e1
    subst e2
    subst e3
    exact ⟨_, _, _, [], rfl, rfl, Nat.le_refl _, by omega, Vec.nil _ _, by intro p hp; cases hp⟩
  · injection e with e
    injection e with e1 e2 e3
    subst e1
    subst e2
    subst e3
    have hml : len ≤ m := by rw [hmm]; split <;> omega
    have hcell : ∀ i, i < len → ∃ x y : Int, V0 i = Vu x ∧ V1 i = Vu y ∧ (0 ≤ x ∧ x ≤ 4294967295) ∧ (0 ≤ y ∧ y ≤ 4294967295) ∧ W.cell? (a'.add (i * 2)) = some (Vu x) ∧ W.cell? (a'.add (i * 2 + 1)) = some (Vu y) := by
      intro i hil
      obtain ⟨h0, h1, t0, t1⟩ := hi i (by omega)
      obtain ⟨x, e0, e1, wx⟩ := DataW.trod_int Try.underlying23 t0
      obtain ⟨y, e2, e3, wy⟩ := DataW.trod_int Try.underlying23 t1
      simp at e0 e2
      rw [e0] at h0
      rw [e2] at h1
      exact ⟨x, y, e0, e2, bounds_u32 wx, bounds_u32 wy, h0, h1⟩
    refine ⟨some a', len, cap, (List.range len).map fun i => (intOf (V0 i), intOf (V1 i)), rfl, by simp, hl, by omega, ?_, ?_⟩
    · intro h0
      have hlen : 0 < len := by
        rw [flat_len encC_len] at h0
        simp at h0
        omega
      obtain ⟨x, y, _, _, _, _, g0, _⟩ := hcell 0 hlen
      obtain ⟨b, o, spot⟩ := a'
      have hspot : spot = none := by simpa [Addr.add] using World.cell?_spot g0
      subst hspot
      refine ⟨b, o, rfl, fun j u hu => ?_⟩
      have hj : j < len * 2 := by
        rcases Nat.lt_or_ge j (len * 2) with k | k
        · exact k
        · rw [List.getElem?_eq_none (by rw [flat_len encC_len]; simpa using k)] at hu; cases hu
      obtain ⟨x, y, e0, e1, _, _, g0, g1⟩ := hcell (j / 2) (by omega)
      have hget : ((List.range len).map fun i => (intOf (V0 i), intOf (V1 i)))[j / 2]? = some (x, y) := by
        rw [List.getElem?_map, List.getElem?_range (by omega)]
        simp [e0, e1, intOf]
      rw [add_at] at g0 g1
      rcases Nat.mod_two_eq_zero_or_one j with k | k
      · have ej : j = j / 2 * 2 + 0 := by omega
        rw [ej, flat_at encC_len hget (by omega)] at hu
        have : u = Vu x := by simpa [encC] using hu.symm
        rw [this, ej]; exact g0
      · have ej : j = j / 2 * 2 + 1 := by omega
        rw [ej, flat_at encC_len hget (by omega)] at hu
        have : u = Vu y := by simpa [encC] using hu.symm
        rw [this, ej]; exact g1
    · intro p hp
      obtain ⟨i, hil, rfl⟩ := List.mem_map.1 hp
      obtain ⟨x, y, e0, e1, wx, wy, _⟩ := hcell i (List.mem_range.1 hil)
      rw [e0, e1]
      exact ⟨wx.1, wx.2, wy.1, wy.2⟩

end Go.Proofs.Ytbniojfggiioaaa
