/-
  DiffTells' walk; no claim stands here.
-/
import Derived.Test.YtjjehncgenajfaaDoorDfK
namespace Go.Proofs.YtjjehncgenajfaaDoor
open Go.ChangeShapes Go.WideShapes Go.ChangeAt Go.RowKit Go.Sort
set_option linter.unusedVariables false
attribute [local go_sem] World.cell?_alloc_some

/-- what the laws of layer 12 let in -/
def inD (s t ins : List UInt8) : Prop := s.length ≤ 1000 ∧ t.length ≤ 1000 ∧ ins.length ≤ 1000 ∧ Lib.validD s = true ∧ Lib.validD t = true ∧ Lib.validD ins = true

set_option maxRecDepth 100000 in
set_option maxHeartbeats 8000000 in
theorem diffTells_walk (K : DfK) (s t : List UInt8) (at' del : Int) (ins : List UInt8) (hs : s.length ≤ 1048576) (ht : t.length ≤ 1048576) (hi : ins.length ≤ 1048576) (a0 : -9223372036854775808 ≤ at') (a1 : at' ≤ 9223372036854775807) (d0 : -9223372036854775808 ≤ del) (d1 : del ≤ 9223372036854775807) (w : World) (hT : Tabs w) :
    Calls Tryd.prog 3 #[Vs s, Vs t, Vi at', Vi del, Vs ins] w fun e w' => e = .returned (.bool true) ∧ Ext w w' := by
  have k1 := Lib.hid (fun W => chars_u s (by omega) W)
  have k2 := Lib.hid (fun W => chars_u t (by omega) W)
  have k3 := Lib.hid (fun W => chars_u ins (by omega) W)
  obtain ⟨x1, hx1⟩ : ∃ b, Lib.validD s = b := ⟨_, rfl⟩
  obtain ⟨x2, hx2⟩ : ∃ b, Lib.validD t = b := ⟨_, rfl⟩
  obtain ⟨x3, hx3⟩ : ∃ b, Lib.validD ins = b := ⟨_, rfl⟩
  rw [hx1] at k1
  rw [hx2] at k2
  rw [hx3] at k3
  replace hx1 := Lib.hid hx1
  replace hx2 := Lib.hid hx2
  replace hx3 := Lib.hid hx3
  go_enter Tryd.func3, Tryd.ntmps3
  go_wp2_with fail
  refine (up12_any K _ hT).mono ?_
  rintro e w1 ⟨rfl, e1⟩
  go_wp2_with fail
  refine (k1.out _).mono ?_
  rintro e w2 ⟨va, rfl, _, e2⟩
  go_wp2_with fail
  refine (k2.out _).mono ?_
  rintro e w3 ⟨vb, rfl, _, e3⟩
  go_wp2_with fail
  refine (k3.out _).mono ?_
  rintro e w4 ⟨vc, rfl, _, e4⟩
  replace e4 := ((e1.trans e2).trans e3).trans e4
  clear e1 e2 e3 k1 k2 k3
  by_cases h1 : 1000 < s.length
  · go_wp2
    go_ret
    exact ⟨rfl, e4⟩
  by_cases h2 : 1000 < t.length
  · go_wp2
    go_ret
    exact ⟨rfl, e4⟩
  by_cases h3 : 1000 < ins.length
  · go_wp2
    go_ret
    exact ⟨rfl, e4⟩
  cases x1 with
  | false =>
    go_wp2
    go_ret
    exact ⟨rfl, e4⟩
  | true =>
    cases x2 with
    | false =>
      go_wp2
      go_ret
      exact ⟨rfl, e4⟩
    | true =>
      cases x3 with
      | false =>
        go_wp2
        go_ret
        exact ⟨rfl, e4⟩
      | true =>
        replace e4 := Lib.hid e4
        obtain ⟨A, D, I, b, hdf⟩ := dfV_is s t
        have c1 := Lib.hid (fun W (hW : Tabs W) => hdf ▸ K.of s t W hW hx1.out hx2.out (by omega) (by omega))
        have c2 := Lib.hid (fun W => hdf ▸ diff_ref s t hx1.out hx2.out (by omega) (by omega) W)
        have c3 := Lib.hid (fun W (hW : Tabs W) => K.done s at' del ins W hW hx1.out hx3.out (by omega) (by omega) a0 a1 d0 d1)
        have c4 := Lib.hid (fun W => do_ref s hx1.out (by omega) at' del ins (by omega) W)
        have he := fun W => ed_eql A D I W
        clear hdf
        go_wp2_with fail
        refine (c1.out _ (hT.ext e4.out)).mono ?_
        rintro e w5 ⟨rfl, e5⟩
        clear c1
        have b1 : BxE (w5.alloc (.cells #[Vi A, Vi D, Vs I] 27)) w5.heap.size A D I := heap_alloc_new w5 _
        have y1 : Ext w5 (w5.alloc (.cells #[Vi A, Vi D, Vs I] 27)) := (Ext.refl _).alloc _
        go_wp2_with fail
        refine (c2.out _).mono ?_
        rintro e w6 ⟨rfl, e6⟩
        clear c2
        replace b1 := b1.ext e6
        replace e6 := (e4.out.trans e5).trans (y1.trans e6)
        have b2 : BxE (w6.alloc (.cells #[Vi A, Vi D, Vs I] 27)) w6.heap.size A D I := heap_alloc_new w6 _
        have y2 : Ext w6 (w6.alloc (.cells #[Vi A, Vi D, Vs I] 27)) := (Ext.refl _).alloc _
        replace b1 := b1.ext y2
        replace e6 := e6.trans y2
        clear e4 e5 y1 y2
        generalize w5.heap.size = p5 at *
        have hz0 : errv 0 = .nilIface := by simp [errv]
        have hz3 : errv 3 = .iface 41 (.int .i64 3) := by simp [errv]
        have hcode := fun W => code_any 3 W (by omega) (by omega)
        rw [hz3] at hcode
        cases hok : doOK (runesD s).length at' del with
        | true =>
          unfold doV at c3
          unfold doRV at c4
          simp only [hok, if_true] at c3 c4
          rw [hz0] at c3
          generalize doB s at' del ins = Z at *
          clear hok hcode hz3 hz0
          go_wp2_with fail
          refine (c3.out _ (hT.ext (by first | exact e6 | exact e6.alloc _))).mono ?_
          rintro e w7 ⟨rfl, e7⟩
          go_wp2_with fail
          refine (c4.out _).mono ?_
          rintro e w8 ⟨rfl, e8⟩
          replace e8 := e7.trans e8
          obtain ⟨q0, q1, q2⟩ := (b1.ext e8).cells
          obtain ⟨r0, r1, r2⟩ := (b2.ext e8).cells
          replace e8 := e6.trans e8
          clear b1 b2 e6 e7 c3 c4
          generalize w6.heap.size = p6 at *
          go_wp2
          go_ret
          exact ⟨by simp, e8⟩
        | false =>
          unfold doV at c3
          unfold doRV at c4
          simp only [hok] at c3 c4
          rw [if_neg (by simp)] at c3 c4
          rw [hz3] at c3
          clear hok hz3 hz0
          go_wp2_with fail
          refine (c3.out _ (hT.ext (by first | exact e6 | exact e6.alloc _))).mono ?_
          rintro e w7 ⟨rfl, e7⟩
          go_wp2_with fail
          refine (c4.out _).mono ?_
          rintro e w8 ⟨rfl, e8⟩
          replace e8 := e7.trans e8
          obtain ⟨q0, q1, q2⟩ := (b1.ext e8).cells
          obtain ⟨r0, r1, r2⟩ := (b2.ext e8).cells
          replace e8 := e6.trans e8
          clear b1 b2 e6 e7 c3 c4
          generalize w6.heap.size = p6 at *
          replace hcode := Lib.hid hcode
          go_wp2_with fail
          refine (hcode.out _).mono ?_
          rintro e w9 ⟨rfl, rfl⟩
          go_wp2
          go_ret
          exact ⟨by simp, e8⟩

end Go.Proofs.YtjjehncgenajfaaDoor
