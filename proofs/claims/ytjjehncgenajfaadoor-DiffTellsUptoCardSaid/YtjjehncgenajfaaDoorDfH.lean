/-
  The landed diff: Of and Do; what the laws of layer 12 ask of them; no claim stands here.
-/
import Derived.Test.YtjjehncgenajfaaDoorDfG
import Derived.Test.YtjjehncgenajfaaDoorDfK
import Derived.Orders
import Derived.StillTail
import Derived.StillTailTactics
namespace Go.Proofs.YtjjehncgenajfaaDoor
open Go.ChangeShapes Go.WideShapes Go.ChangeAt Go.RowKit Go.Sort
set_option linter.unusedVariables false
attribute [local go_sem] World.cell?_alloc_some

theorem encU_add (x : List Nat) (k d : Nat) : (encU (x.take (k + d))).length = (encU (x.take k)).length + (encU ((x.drop k).take d)).length := by
  rw [List.take_add, encU_app, List.length_append]
theorem encU_long (l : List Nat) : l.length ≤ (encU l).length := by
  induction l with
  | nil => simp
  | cons n l ih =>
    rw [encU_cons, List.length_append, List.length_cons]
    have := (enc_len (n : Int)).1
    omega

set_option maxRecDepth 100000 in
set_option maxHeartbeats 8000000 in
theorem of_df (s t : List UInt8) (w : World) (hT : Tabs w) (hs : Lib.validD s = true) (ht : Lib.validD t = true) (hsl : s.length ≤ 10000) (htl : t.length ≤ 10000) :
    Calls Tryd.prog 7 #[Vs s, Vs t] w fun e w' => e = .returned (dfV s t) ∧ Ext w w' := by
  have hx : okL (runesD s) := runes_okC _ s (Nat.le_refl _)
  have hy : okL (runesD t) := runes_okC _ t (Nat.le_refl _)
  have ex := enc_dec _ s (Nat.le_refl _) hs
  have ey := enc_dec _ t (Nat.le_refl _) ht
  obtain ⟨R, hR⟩ : ∃ R, dfV s t = R := ⟨_, rfl⟩
  rw [hR]
  unfold dfV at hR
  have bx : BxE (w.alloc (.cells #[.int .i64 0, .int .i64 0, .string ⟨#[]⟩] 27)) w.heap.size 0 0 [] := heap_alloc_new w _
  have xw : Ext w (w.alloc (.cells #[.int .i64 0, .int .i64 0, .string ⟨#[]⟩] 27)) := (Ext.refl w).alloc _
  have hp4 := Lib.hid (Nat.le_refl w.heap.size)
  by_cases hst : s = t
  · subst hst
    rw [if_pos rfl] at hR
    replace hR := Lib.hid hR
    obtain ⟨c0, c1, c2⟩ := bx.cells
    have f0 := bx.thaw 0
    have f1 := bx.thaw 1
    have f2 := bx.thaw 2
    go_enter Tryd.func7, Tryd.ntmps7
    go_wp2_with fail
    generalize w.alloc (.cells #[.int .i64 0, .int .i64 0, .string ⟨#[]⟩] 27) = w1 at *
    obtain ⟨y0, y1, y2⟩ := bx.cells
    exact bodyPost_ret (v := .tuple #[.agg #[Vi 0, Vi 0, Vs []], .bool false]) (by simp [results, Tryd.results7, go_sem, y0, y1, y2]) rfl ⟨by rw [hR.out], xw⟩
  · rw [if_neg hst] at hR
    have hne : (s == t) = false := by simpa using hst
    generalize runesD s = x at *
    generalize runesD t = y at *
    subst ex
    subst ey
    obtain ⟨p, hp⟩ : ∃ p, cpN x y = p := ⟨_, rfl⟩
    obtain ⟨q, hq⟩ : ∃ q, csN x y = q := ⟨_, rfl⟩
    have hc1 := cp_le x y
    have hc2 := cs_le x y
    have hyt : (encU (y.take p)).length = (encU (x.take p)).length := by rw [← hp, cp_take]
    have hle1 := encU_le x p
    have hle2 := encU_le y p
    have hex := congrArg List.length (encU_split x p)
    have hey := congrArg List.length (encU_split y p)
    rw [List.length_append] at hex hey
    have k1 := Lib.hid (fun W (h : Tabs W) => begin_df x y hx hy (by omega) (by omega) W h)
    have k2 := Lib.hid (fun W => count_df (encU (x.take p)) (by omega) W)
    rw [(dec_enc1 (hx.take p)).2, List.length_take, Nat.min_eq_left (by omega)] at k2
    have rx : (x.drop p).reverse.reverse = x.drop p := List.reverse_reverse _
    have ry : (y.drop p).reverse.reverse = y.drop p := List.reverse_reverse _
    have k3 := Lib.hid (fun W (h : Tabs W) => end_df (x.drop p).reverse (y.drop p).reverse (hx.drop p).rev (hy.drop p).rev (by rw [rx]; omega) (by rw [ry]; omega) W h)
    have hcs : cpN (x.drop p).reverse (y.drop p).reverse = q := by rw [← hq, ← hp]; rfl
    rw [hcs, rx, ry] at k3
    rw [hp] at k1
    have hsx := congrArg List.length (encR_split (x.drop p).reverse q)
    have hsy := congrArg List.length (encR_split (y.drop p).reverse q)
    rw [List.length_append] at hsx hsy
    rw [rx] at hsx
    rw [ry] at hsy
    have hqt : (encU ((y.drop p).reverse.take q).reverse).length = (encU ((x.drop p).reverse.take q).reverse).length := by rw [← hcs, cp_take]
    rw [hqt] at hsy
    have f1 := fun W => sTo (encU x) (encU (x.take p)).length hle1 _ rfl W
    rw [encU_take] at f1
    have f2 := fun W => sFrom (encU x) (encU (x.take p)).length hle1 _ rfl W
    rw [encU_drop] at f2
    have f3 := fun W => sFrom (encU y) (encU (y.take p)).length hle2 _ rfl W
    rw [encU_drop, hyt] at f3
    have f4 := fun W z hz => sTo (encU (x.drop p)) (encU ((x.drop p).reverse.drop q).reverse).length (by omega) z hz W
    have c4 := encR_cut (x.drop p).reverse q
    rw [rx] at c4
    rw [c4] at f4
    have f5 := fun W z hz => sTo (encU (y.drop p)) (encU ((y.drop p).reverse.drop q).reverse).length (by omega) z hz W
    have c5 := encR_cut (y.drop p).reverse q
    rw [ry] at c5
    rw [c5] at f5
    have hD : (runesD (encU ((x.drop p).reverse.drop q).reverse)).length = dfD x y := by
      rw [(dec_enc1 ((hx.drop p).rev.drop q).rev).2, List.length_reverse, List.length_drop, List.length_reverse, List.length_drop]
      unfold dfD
      omega
    have hI : ((y.drop p).reverse.drop q).reverse = dfI x y := by
      rw [List.drop_reverse, List.reverse_reverse]
      unfold dfI
      rw [hq, hp, List.drop_take, List.length_drop]
      congr 1
      omega
    have k4 := Lib.hid (fun W => count_df (encU ((x.drop p).reverse.drop q).reverse) (by omega) W)
    rw [hD] at k4
    have k5 := Lib.hid (fun W => clone_df (encU ((y.drop p).reverse.drop q).reverse) (by omega) W)
    rw [hI] at k5 f5 hsy
    rw [hp] at hR
    replace hR := Lib.hid hR
    generalize dfD x y = D at *
    generalize dfI x y = I at *
    generalize hA1 : (encU (x.drop p)).length = a1 at *
    generalize hA2 : (encU (y.drop p)).length = a2 at *
    generalize (encU ((x.drop p).reverse.drop q).reverse).length = a3 at *
    generalize hA4 : (encU I).length = a4 at *
    generalize (encU ((x.drop p).reverse.take q).reverse).length = T at *
    generalize (encU (x.take p)).length = P at *
    have hw1 : IntKind.i64.wrap ((a1 : Int) - (T : Int)) = (a1 : Int) - (T : Int) := IntWalk.i64_in _ (by omega)
    have hw2 : IntKind.i64.wrap ((a2 : Int) - (T : Int)) = (a2 : Int) - (T : Int) := IntWalk.i64_in _ (by omega)
    have g4 := fun W => f4 W ((a1 : Int) - (T : Int)) (by omega)
    have g5 := fun W => f5 W ((a2 : Int) - (T : Int)) (by omega)
    clear f4 f5 hsx hsy hqt hcs hc1 hc2 hyt hle1 hle2 hex hey c4 c5 hD hI rx ry hx hy hst hsl htl hp hq hA4
    go_enter Tryd.func7, Tryd.ntmps7
    go_wp2_with fail
    generalize w.alloc (.cells #[.int .i64 0, .int .i64 0, .string ⟨#[]⟩] 27) = w1 at *
    refine (k1.out _ (hT.ext xw)).mono ?_
    rintro e w2 ⟨rfl, x2⟩
    replace bx := bx.ext x2
    replace xw := xw.trans x2
    clear k1 x2
    go_wp2_with fail
    refine (k2.out _).mono ?_
    rintro e w3 ⟨rfl, x3⟩
    replace bx := bx.ext x3
    replace xw := xw.trans x3
    clear k2 x3
    clear hp4
    generalize hp4 : w.heap.size = p4 at *
    replace hp4 := Lib.hid (Nat.le_of_eq hp4)
    go_wp2_with fail
    go_region
    go_wp2_with fail
    replace bx := bx.ext (Ext.drew (Ext.refl _))
    replace xw := xw.drew
    refine (k3.out _ (hT.ext xw)).mono ?_
    rintro e w4 ⟨rfl, x4⟩
    replace bx := bx.ext x4
    replace xw := xw.trans x4
    clear k3 x4
    go_wp2_with fail
    go_region
    go_wp2_with fail
    replace bx := bx.ext (Ext.drew (Ext.refl _))
    replace xw := xw.drew
    refine (k4.out _).mono ?_
    rintro e w5 ⟨rfl, x5⟩
    replace bx := bx.ext x5
    replace xw := xw.trans x5
    clear k4 x5
    go_wp2_with fail
    refine (k5.out _).mono ?_
    rintro e w6 ⟨rfl, x6⟩
    replace bx := bx.ext x6
    replace xw := xw.trans x6
    clear k5 x6
    obtain ⟨c0, c1, c2⟩ := bx.cells
    have f0 := bx.thaw 0
    have f1 := bx.thaw 1
    have f2 := bx.thaw 2
    obtain ⟨y0, y1, y2⟩ := (bx.all (p : Int) (D : Int) (encU I)).cells
    replace bx := Lib.hid bx
    go_wp2_with fail
    exact bodyPost_ret (v := .tuple #[.agg #[Vi (p : Int), Vi (D : Int), Vs (encU I)], .bool true]) (by simp [results, Tryd.results7, go_sem, y0, y1, y2]) rfl ⟨by rw [hR.out], ((xw.setCell hp4.out _).setCell hp4.out _).setCell hp4.out _⟩

set_option maxRecDepth 100000 in
set_option maxHeartbeats 8000000 in
theorem done_df (s : List UInt8) (at' del : Int) (ins : List UInt8) (w : World) (hT : Tabs w) (hs : Lib.validD s = true) (hi : Lib.validD ins = true) (hsl : s.length ≤ 10000) (hil : ins.length ≤ 10000) (a0 : -9223372036854775808 ≤ at') (a1 : at' ≤ 9223372036854775807) (d0 : -9223372036854775808 ≤ del) (d1 : del ≤ 9223372036854775807) :
    Calls Tryd.prog 9 #[Vs s, .agg #[Vi at', Vi del, Vs ins]] w fun e w' => e = .returned (doV s at' del ins) ∧ Ext w w' := by
  have hx : okL (runesD s) := runes_okC _ s (Nat.le_refl _)
  have ex := enc_dec _ s (Nat.le_refl _) hs
  have hlong := encU_long (runesD s)
  obtain ⟨R, hR⟩ : ∃ R, doV s at' del ins = R := ⟨_, rfl⟩
  rw [hR]
  unfold doV doB at hR
  obtain ⟨n, hn⟩ : ∃ n, (runesD s).length = n := ⟨_, rfl⟩
  rw [hn] at hR hlong
  have k1 := Lib.hid (fun W => count_df s (by omega) W)
  rw [hn] at k1
  have hz0 : errv 0 = .nilIface := by simp [errv]
  have hz3 : errv 3 = .iface 41 (.int .i64 3) := by simp [errv]
  rw [hz0, hz3] at hR
  generalize runesD s = x at *
  subst ex
  have bx : BxE (w.alloc (.cells #[Vi at', Vi del, Vs ins] 27)) w.heap.size at' del ins := heap_alloc_new w _
  have xw : Ext w (w.alloc (.cells #[Vi at', Vi del, Vs ins] 27)) := (Ext.refl w).alloc _
  go_enter Tryd.func9, Tryd.ntmps9
  go_wp2_with fail
  generalize w.alloc (.cells #[Vi at', Vi del, Vs ins] 27) = w1 at *
  generalize w.heap.size = p1 at *
  refine (k1.out _).mono ?_
  rintro e w2 ⟨rfl, x2⟩
  replace bx := bx.ext x2
  replace xw := xw.trans x2
  clear k1 x2
  obtain ⟨c0, c1, c2⟩ := bx.cells
  by_cases h1 : at' < 0
  · rw [if_neg (by rw [doOK_no (.inl h1)]; simp)] at hR
    replace hR := Lib.hid hR
    have q1 : decide (at' < 0) = true := decide_eq_true h1
    go_wp2
    exact bodyPost_ret (v := .tuple #[Vs [], .iface 41 (.int .i64 3)]) (by simp [results, Tryd.results9, go_sem]) rfl ⟨by rw [hR.out], xw⟩
  · have q1 : decide (at' < 0) = false := decide_eq_false h1
    by_cases h2 : del < 0
    · rw [if_neg (by rw [doOK_no (.inr (.inl h2))]; simp)] at hR
      replace hR := Lib.hid hR
      have q2 : decide (del < 0) = true := decide_eq_true h2
      go_wp2
      exact bodyPost_ret (v := .tuple #[Vs [], .iface 41 (.int .i64 3)]) (by simp [results, Tryd.results9, go_sem]) rfl ⟨by rw [hR.out], xw⟩
    · have q2 : decide (del < 0) = false := decide_eq_false h2
      have hw : IntKind.i64.wrap ((n : Int) - at') = (n : Int) - at' := IntWalk.i64_in _ (by omega)
      by_cases h3 : (n : Int) - at' < del
      · rw [if_neg (by rw [doOK_no (.inr (.inr (.inr h3)))]; simp)] at hR
        replace hR := Lib.hid hR
        have q3 : decide ((n : Int) - at' < del) = true := decide_eq_true h3
        go_wp2
        exact bodyPost_ret (v := .tuple #[Vs [], .iface 41 (.int .i64 3)]) (by simp [results, Tryd.results9, go_sem]) rfl ⟨by rw [hR.out], xw⟩
      · have q3 : decide ((n : Int) - at' < del) = false := decide_eq_false h3
        rw [if_pos (doOK_yes (by omega) (by omega) (by omega))] at hR
        obtain ⟨k, rfl⟩ : ∃ k : Nat, at' = k := ⟨at'.toNat, by omega⟩
        obtain ⟨d, rfl⟩ : ∃ k : Nat, del = k := ⟨del.toNat, by omega⟩
        rw [Int.toNat_natCast, Int.toNat_natCast] at hR
        have hkd : k + d ≤ n := by omega
        have hle := encU_le x (k + d)
        have hle0 := encU_le x k
        have hadd := encU_add x k d
        have hd1 := congrArg List.length (encU_split x k)
        have hd2 := congrArg List.length (encU_split x (k + d))
        rw [List.length_append] at hd1 hd2
        have k2 := Lib.hid (fun W (h : Tabs W) => size_df x hx (by omega) k (by omega) W h)
        have k3 := Lib.hid (fun W (h : Tabs W) => size_df (x.drop k) (hx.drop k) (by omega) d (by rw [List.length_drop]; omega) W h)
        have k4 := Lib.hid (fun q W => join_df (encU (x.take k)) ins (encU (x.drop (k + d))) (by omega) (by omega) (by omega) q W)
        have f1 := fun W => sFrom (encU x) (encU (x.take k)).length hle0 _ rfl W
        rw [encU_drop] at f1
        have f2 := fun W => sTo (encU x) (encU (x.take k)).length hle0 _ rfl W
        rw [encU_take] at f2
        have f3 := fun W z hz => sFrom (encU x) (encU (x.take (k + d))).length hle z hz W
        rw [encU_drop] at f3
        generalize (encU (x.take (k + d))).length = Z at *
        generalize (encU (x.take k)).length = P at *
        generalize (encU ((x.drop k).take d)).length = Q at *
        have hw1 : IntKind.i64.wrap ((P : Int) + (Q : Int)) = (P : Int) + (Q : Int) := IntWalk.i64_in _ (by omega)
        have g3 := fun W => f3 W ((P : Int) + (Q : Int)) (by omega)
        replace hR := Lib.hid hR
        clear f3 hd1 hd2 hle hle0 hadd hkd hlong
        go_wp2_with fail
        refine (k2.out _ (hT.ext xw)).mono ?_
        rintro e w3 ⟨rfl, x3⟩
        replace bx := bx.ext x3
        replace xw := xw.trans x3
        clear k2 x3 c0 c1 c2
        obtain ⟨c0, c1, c2⟩ := bx.cells
        go_wp2_with fail
        refine wp_region_still_tail 5 (by kernel_rfl) (by kernel_rfl) ?_
        simp only [List.take_succ_cons, List.take_zero, List.drop_succ_cons, List.drop_zero]
        change wpStill Tryd.prog _ w3.drew (fun a' => wpList Tryd.prog _ _ _ a' w3.drew) _ _
        replace bx := bx.ext (Ext.drew (Ext.refl w3))
        replace xw := xw.drew
        clear c0 c1 c2
        generalize w3.drew = w4 at *
        obtain ⟨c0, c1, c2⟩ := bx.cells
        repeat still_step
        refine wpStill_nil ?_
        go_wp2_with fail
        refine (k3.out _ (hT.ext xw)).mono ?_
        rintro e w5 ⟨rfl, x5⟩
        replace bx := bx.ext x5
        replace xw := xw.trans x5
        clear k3 x5 c0 c1 c2
        obtain ⟨c0, c1, c2⟩ := bx.cells
        go_wp2_with fail
        refine wp_region_still_tail 10 (by kernel_rfl) (by kernel_rfl) ?_
        simp only [List.take_succ_cons, List.take_zero, List.drop_succ_cons, List.drop_zero]
        change wpStill Tryd.prog _ w5.drew (fun a' => wpList Tryd.prog _ _ _ a' w5.drew) _ _
        replace bx := bx.ext (Ext.drew (Ext.refl w5))
        replace xw := xw.drew
        clear c0 c1 c2
        generalize w5.drew = w6 at *
        obtain ⟨c0, c1, c2⟩ := bx.cells
        repeat still_step
        refine wpStill_nil ?_
        go_wp2_with fail
        have y6 := xw.alloc (.cells #[Vs (encU (x.take k)), Vs ins, Vs (encU (x.drop (k + d)))] 9)
        refine (k4.out w6.heap.size _ (by simp [go_sem]) (by simp [go_sem]) (by simp [go_sem]) (by show w6.heap.size < (w6.heap.push _).size; rw [Array.size_push]; omega)).mono ?_
        rintro e w7 ⟨rfl, x7⟩
        go_wp2_with fail
        exact bodyPost_ret (v := .tuple #[Vs (encU (x.take k) ++ ins ++ encU (x.drop (k + d))), .nilIface]) (by simp [results, Tryd.results9, go_sem]) rfl ⟨by rw [hR.out], y6.trans x7⟩

/-- what the laws of layer 12 ask of the landed diff -/
theorem diff_K : DfK := ⟨fun s t w hT hs ht h1 h2 => of_df s t w hT hs ht h1 h2, fun s a d i w hT hs hi h1 h2 a0 a1 d0 d1 => done_df s a d i w hT hs hi h1 h2 a0 a1 d0 d1⟩

end Go.Proofs.YtjjehncgenajfaaDoor
