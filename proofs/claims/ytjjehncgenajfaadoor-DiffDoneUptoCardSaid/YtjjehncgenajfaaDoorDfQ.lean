/-
  DiffDone's walk; no claim stands here.
-/
import Derived.Test.YtjjehncgenajfaaDoorDfN
namespace Go.Proofs.YtjjehncgenajfaaDoor
open Go.ChangeShapes Go.WideShapes Go.ChangeAt Go.RowKit Go.Sort
set_option linter.unusedVariables false
attribute [local go_sem] World.cell?_alloc_some

set_option maxRecDepth 100000 in
set_option maxHeartbeats 16000000 in
theorem diffDone_walk (K : DfK) (s t : List UInt8) (at' del : Int) (ins : List UInt8) (hs : s.length ≤ 1048576) (ht : t.length ≤ 1048576) (hi : ins.length ≤ 1048576) (a0 : -9223372036854775808 ≤ at') (a1 : at' ≤ 9223372036854775807) (d0 : -9223372036854775808 ≤ del) (d1 : del ≤ 9223372036854775807) (w : World) (hT : Tabs w) :
    Calls Tryd.prog 4 #[Vs s, Vs t, Vi at', Vi del, Vs ins] w fun e w' => e = .returned (.bool true) ∧ Ext w w' := by
  have k1 := Lib.hid (fun W => chars_u s (by omega) W)
  have k2 := Lib.hid (fun W => chars_u t (by omega) W)
  have k3 := Lib.hid (fun W => chars_u ins (by omega) W)
  obtain ⟨x1, hx1⟩ : ∃ b, Lib.validD s = b := ⟨_, rfl⟩
  obtain ⟨x2, hx2⟩ : ∃ b, Lib.validD t = b := ⟨_, rfl⟩
  obtain ⟨x3, hx3⟩ : ∃ b, Lib.validD ins = b := ⟨_, rfl⟩
  rw [hx1] at k1
  rw [hx2] at k2
  rw [hx3] at k3
  replace hx1 := Lib.hid hx1
  replace hx2 := Lib.hid hx2
  replace hx3 := Lib.hid hx3
  go_enter Tryd.func4, Tryd.ntmps4
  go_wp2_with fail
  refine (up12_any K _ hT).mono ?_
  rintro e w1 ⟨rfl, e1⟩
  go_wp2_with fail
  refine (k1.out _).mono ?_
  rintro e w2 ⟨va, rfl, _, e2⟩
  go_wp2_with fail
  refine (k2.out _).mono ?_
  rintro e w3 ⟨vb, rfl, _, e3⟩
  go_wp2_with fail
  refine (k3.out _).mono ?_
  rintro e w4 ⟨vc, rfl, _, e4⟩
  replace e4 := ((e1.trans e2).trans e3).trans e4
  clear e1 e2 e3 k1 k2 k3
  by_cases h1 : 1000 < s.length
  · go_wp2
    go_ret
    exact ⟨rfl, e4⟩
  by_cases h2 : 1000 < t.length
  · go_wp2
    go_ret
    exact ⟨rfl, e4⟩
  by_cases h3 : 1000 < ins.length
  · go_wp2
    go_ret
    exact ⟨rfl, e4⟩
  cases x1 with
  | false =>
    go_wp2
    go_ret
    exact ⟨rfl, e4⟩
  | true =>
    cases x2 with
    | false =>
      go_wp2
      go_ret
      exact ⟨rfl, e4⟩
    | true =>
      cases x3 with
      | false =>
        go_wp2
        go_ret
        exact ⟨rfl, e4⟩
      | true =>
        replace e4 := Lib.hid e4
        obtain ⟨A, D, D', I, I', b, hb, hd1, hd2, vI, lI, lA, lD, vI', lI', lD', ho1, ho2, hDl⟩ := df_both hx1.out hx2.out
        have hz0 : errv 0 = .nilIface := by simp [errv]
        rw [hz0] at ho1 ho2
        have hbv : b = !(s == t) := by rw [hb]; by_cases h : s = t <;> simp [h]
        have c1 := Lib.hid (fun W (hW : Tabs W) => hd1 ▸ K.of s t W hW hx1.out hx2.out (by omega) (by omega))
        have c2 := Lib.hid (fun W (hW : Tabs W) => ho1 ▸ K.done s A D I W hW hx1.out vI (by omega) (by omega) (by omega) (by omega) (by omega) (by omega))
        have c3 := Lib.hid (fun W (hW : Tabs W) => hd2 ▸ K.of t s W hW hx2.out hx1.out (by omega) (by omega))
        have c4 := Lib.hid (fun W (hW : Tabs W) => ho2 ▸ K.done t A D' I' W hW hx2.out vI' (by omega) (by omega) (by omega) (by omega) (by omega) (by omega))
        have c5 := Lib.hid (fun W => chars_u I (by omega) W)
        have c6 := Lib.hid (fun W (hW : Tabs W) => K.done s at' del ins W hW hx1.out hx3.out (by omega) (by omega) a0 a1 d0 d1)
        subst hDl
        generalize hnL : (runesD I).length = nL at *
        clear hd1 hd2 ho1 ho2 hb
        cases hq : (s == t)
        all_goals
          rw [hq] at hbv
          simp only [Bool.not_false, Bool.not_true] at hbv
          subst hbv
          go_wp2_with fail
          refine (c1.out _ (hT.ext e4.out)).mono ?_
          rintro e w5 ⟨rfl, e5⟩
          have b1 : BxE (w5.alloc (.cells #[Vi (A : Int), Vi (D : Int), Vs I] 27)) w5.heap.size A D I := heap_alloc_new w5 _
          have y1 : Ext w (w5.alloc (.cells #[Vi (A : Int), Vi (D : Int), Vs I] 27)) := (e4.out.trans e5).alloc _
          clear e4 e5 c1
          go_wp2_with fail
          generalize w5.alloc (.cells #[Vi (A : Int), Vi (D : Int), Vs I] 27) = W1 at *
          refine (c2.out _ (hT.ext (by first | exact y1 | exact y1.alloc _))).mono ?_
          rintro e w6 ⟨rfl, e6⟩
          replace b1 := b1.ext e6
          replace y1 := y1.trans e6
          clear c2 e6
          generalize w5.heap.size = p5 at *
          go_wp2_with fail
          refine (c3.out _ (hT.ext (by first | exact y1 | exact y1.alloc _))).mono ?_
          rintro e w7 ⟨rfl, e7⟩
          have b2 : BxE (w7.alloc (.cells #[Vi (A : Int), Vi (nL : Int), Vs I'] 27)) w7.heap.size A nL I' := heap_alloc_new w7 _
          have y2 : Ext w7 (w7.alloc (.cells #[Vi (A : Int), Vi (nL : Int), Vs I'] 27)) := (Ext.refl _).alloc _
          replace b1 := (b1.ext e7).ext y2
          replace y1 := (y1.trans e7).trans y2
          clear c3 e7 y2
          go_wp2_with fail
          generalize w7.alloc (.cells #[Vi (A : Int), Vi (nL : Int), Vs I'] 27) = W2 at *
          refine (c4.out _ (hT.ext (by first | exact y1 | exact y1.alloc _))).mono ?_
          rintro e w8 ⟨rfl, e8⟩
          replace b1 := b1.ext e8
          replace b2 := b2.ext e8
          replace y1 := y1.trans e8
          clear c4 e8
          generalize w7.heap.size = p7 at *
          obtain ⟨q0, q1, q2⟩ := b1.cells
          go_wp2_with fail
          refine (c5.out _).mono ?_
          rintro e w9 ⟨vv, rfl, o9, e9⟩
          obtain ⟨Av, cv, rfl, _⟩ := OwnG.form (o9 vI)
          rw [hnL]
          clear q0 q1 q2 c5 o9
          obtain ⟨q0, q1, q2⟩ := (b1.ext e9).cells
          obtain ⟨r0, r1, r2⟩ := (b2.ext e9).cells
          replace y1 := y1.trans e9
          have hnn : ((nL : Int) != (nL : Int)) = false := by simp
          clear b1 b2 e9 hnL
          go_wp2_with fail
          have hz3 : errv 3 = .iface 41 (.int .i64 3) := by simp [errv]
          cases hok : doOK (runesD s).length at' del with
          | false =>
            unfold doV at c6
            simp only [hok] at c6
            rw [if_neg (by simp), hz3] at c6
            clear hok hz0 hz3
            refine (c6.out _ (hT.ext (by first | exact y1 | exact y1.alloc _))).mono ?_
            rintro e w10 ⟨rfl, e10⟩
            go_wp2
            go_ret
            exact ⟨rfl, y1.trans e10⟩
          | true =>
            obtain ⟨vZ, lZ, hd0, A2, D2, I2, b2, hdf, hD2, hI2⟩ := df_any hx1.out hx3.out hok
            unfold doV at c6
            simp only [hok, if_true] at c6
            rw [hz0] at c6
            have c7 := Lib.hid (fun W (hW : Tabs W) => hdf ▸ K.of s (doB s at' del ins) W hW hx1.out vZ (by omega) (by omega))
            clear hdf hok vZ hz0 hz3
            generalize doB s at' del ins = Z at *
            refine (c6.out _ (hT.ext (by first | exact y1 | exact y1.alloc _))).mono ?_
            rintro e w10 ⟨rfl, e10⟩
            go_wp2_with fail
            refine (c7.out _ (hT.ext (y1.trans e10))).mono ?_
            rintro e w11 ⟨rfl, e11⟩
            have b3 : BxE (w11.alloc (.cells #[Vi (A2 : Int), Vi (D2 : Int), Vs I2] 27)) w11.heap.size A2 D2 I2 := heap_alloc_new w11 _
            have y3 := Ext.alloc ((y1.trans e10).trans e11) (.cells #[Vi (A2 : Int), Vi (D2 : Int), Vs I2] 27)
            obtain ⟨u0, u1, u2⟩ := b3.cells
            clear b3 y1 e10 e11 c6 c7 q0 q1 q2 r0 r1 r2
            by_cases hdz : del ≤ 0
            · have hmx : (D2 : Int) ≤ 0 := by omega
              go_wp2
              go_ret
              exact ⟨by simp, y3⟩
            · go_wp2
              go_ret
              exact ⟨by simp, y3⟩

end Go.Proofs.YtjjehncgenajfaaDoor
