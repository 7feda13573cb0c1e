/-
  Contracts of vector's look-up: find, Next, Covers; no claim stands here.
-/
import Derived.Test.YtbniojfggiioaaaVec
namespace Go.Proofs.Ytbniojfggiioaaa
open Go.ChangeShapes Go.WideShapes Go.ChangeAt Go.RowKit Go.Sort
set_option linter.unusedVariables false

theorem isNaN_any (a : Int) (w : World) : Calls Try.prog 21 #[Vu a] w fun e w' => e = .returned (.bool false) ∧ w = w' := by
  go_enter Try.func21, Try.ntmps21
  go_wp2
  go_ret
  exact ⟨by simp, rfl⟩

def cmpI (a b : Int) : Int := if a < b then -1 else if b < a then 1 else 0

theorem compare_any (a b : Int) (w : World) : Calls Try.prog 20 #[Vu a, Vu b] w fun e w' => e = .returned (Vi (cmpI a b)) ∧ w = w' := by
  go_enter Try.func20, Try.ntmps20
  go_wp2_with (go_at_call 21; refine (isNaN_any _ _).mono ?_; rintro e w' ⟨rfl, rfl⟩)
  all_goals go_ret
  all_goals refine ⟨?_, rfl⟩
  all_goals (refine ret_i64 ?_; unfold cmpI; (repeat' split) <;> omega)

theorem byClient_any (x y c : Int) (w : World) : Calls Try.prog 19 #[.agg #[.int .u32 x, .int .u32 y], Vu c] w fun e w' => e = .returned (Vi (cmpI x c)) ∧ Ext w w' := by
  go_enter Try.func19, Try.ntmps19
  go_wp2_with (go_at_call 20; refine (compare_any _ _ _).mono ?_; rintro e w' ⟨rfl, rfl⟩)
  go_ret
  exact ⟨rfl, (Ext.refl _).alloc _⟩

set_option maxHeartbeats 2000000 in
theorem search_any (A : Option Addr) (n cap : Nat) (l : List (Int × Int)) (c : Int) (w : World) (hv : Vec w A l) (hn : l.length = n) (hm : mayFrom 0 l = true) (hb : n ≤ 1000) :
    Calls Try.prog 18 #[.slice A n cap, Vu c, .func (.func 19) #[] #[]] w fun e w' =>
      e = .returned (.tuple #[.int .i64 (idxOf l c : Nat), .bool (hasOf l c)]) ∧ Ext w w' := by
  replace hn := Lib.hid hn
  replace hv := Lib.hid hv
  replace hm := Lib.hid hm
  go_enter Try.func18, Try.ntmps18
  go_wp2
  go_loopg [9, 10] n (fun kx s9 s10 wr => ∃ lo hi : Nat, s9 = .int .i64 lo ∧ s10 = .int .i64 hi ∧ lo ≤ hi ∧ hi ≤ n ∧ hi - lo ≤ kx ∧ Ext w wr ∧
    Hid ((∀ t p, t < lo → l[t]? = some p → p.1 < c) ∧ (∀ t p, hi ≤ t → l[t]? = some p → c ≤ p.1)))
  case atStart => exact ⟨0, n, rfl, rfl, Nat.zero_le _, Nat.le_refl _, by omega, Ext.refl _, Lib.hid ⟨fun t p ht => absurd ht (Nat.not_lt_zero _), fun t p h1 h2 => by
    rw [List.getElem?_eq_none (by rw [hn.out]; exact h1)] at h2; cases h2⟩⟩
  case round =>
    obtain ⟨lo, hi, rfl, rfl, hlh, hin, hg, hx, I⟩ := hrel
    by_cases hlt : lo < hi
    · obtain ⟨b, o, x, y, rfl, hp, c0, c1⟩ := (hv.out.ext hx).at (k := (lo + hi) / 2) (by rw [hn.out]; omega)
      replace hp := Lib.hid hp
      by_cases hxc : x < c
      · have hc := byClient_any x y c wr
        rw [show cmpI x c = -1 by simp [cmpI, hxc]] at hc
        replace hc := Lib.hid hc
        go_wp2_with fail
        refine hc.out.mono ?_
        rintro e w1 ⟨rfl, x1⟩
        go_wp2
        go_roundg (hi - ((lo + hi) / 2 + 1))
        case measure => omega
        case rel =>
          exact ⟨(lo + hi) / 2 + 1, hi, by rw [show ((lo : Int) + (hi : Int)) / 2 + 1 = (((lo + hi) / 2 + 1 : Nat) : Int) by omega], rfl, by omega, hin, Nat.le_refl _, hx.trans x1,
            Lib.hid ⟨fun t p ht hq => by
              rcases Nat.lt_or_ge t ((lo + hi) / 2) with g | g
              · have := may_sorted hm.out g hq hp.out; simp only at this; omega
              · have e : t = (lo + hi) / 2 := by omega
                subst e
                rw [hp.out] at hq
                injection hq with hq
                subst hq
                exact hxc, I.out.2⟩⟩
      · have hc := byClient_any x y c wr
        obtain ⟨r, hr, hr0⟩ : ∃ r, cmpI x c = r ∧ 0 ≤ r := ⟨_, rfl, by unfold cmpI; (repeat' split) <;> omega⟩
        rw [hr] at hc
        replace hc := Lib.hid hc
        have hr' : decide (r < 0) = false := by simpa using hr0
        clear hr
        go_wp2_with fail
        refine hc.out.mono ?_
        rintro e w1 ⟨rfl, x1⟩
        go_wp2
        go_roundg ((lo + hi) / 2 - lo)
        case measure => omega
        case rel =>
          exact ⟨lo, (lo + hi) / 2, rfl, by rw [show ((lo : Int) + (hi : Int)) / 2 = (((lo + hi) / 2 : Nat) : Int) by omega], by omega, by omega, Nat.le_refl _, hx.trans x1,
            Lib.hid ⟨I.out.1, fun t p ht hq => by
              rcases Nat.lt_or_ge ((lo + hi) / 2) t with g | g
              · have := may_sorted hm.out g hp.out hq; simp only at this; omega
              · have e : t = (lo + hi) / 2 := by omega
                subst e
                rw [hp.out] at hq
                injection hq with hq
                subst hq
                simp only; omega⟩⟩
    · obtain rfl : hi = lo := by omega
      have hidx := Lib.hid (idx_of (l := l) (c := c) (i := hi) (by rw [hn.out]; exact hin) I.out.1 (fun p hp => I.out.2 hi p (Nat.le_refl _) hp))
      by_cases hlt2 : hi < n
      · obtain ⟨b, o, x, y, rfl, hp, c0, c1⟩ := (hv.out.ext hx).at (k := hi) (by rw [hn.out]; exact hlt2)
        have hhas := Lib.hid (show hasOf l c = decide (x = c) from has_at (p := (x, y)) (by rw [hidx.out]; exact hp))
        clear hp
        have hc := byClient_any x y c wr
        by_cases hxc : x = c
        · rw [show cmpI x c = 0 by simp [cmpI, hxc]] at hc
          have hh := Lib.hid (show hasOf l c = true by rw [hhas.out]; simpa using hxc)
          replace hc := Lib.hid hc
          clear hxc hhas
          go_wp2_with fail
          refine hc.out.mono ?_
          rintro e w1 ⟨rfl, x1⟩
          go_wp2
          go_ret2
          exact ⟨ret_ib (a := hi) (b := true) (by rw [hidx.out]) hh.out.symm, hx.trans x1⟩
        · have hh := Lib.hid (show hasOf l c = false by rw [hhas.out]; simpa using hxc)
          obtain ⟨r, hr, hr0⟩ : ∃ r, cmpI x c = r ∧ (r == 0) = false := ⟨_, rfl, by unfold cmpI; (repeat' split) <;> first | rfl | omega⟩
          rw [hr] at hc
          replace hc := Lib.hid hc
          clear hxc hhas hr
          go_wp2_with fail
          refine hc.out.mono ?_
          rintro e w1 ⟨rfl, x1⟩
          go_wp2
          go_ret2
          exact ⟨ret_ib (a := hi) (b := false) (by rw [hidx.out]) hh.out.symm, hx.trans x1⟩
      · have hh := Lib.hid (show hasOf l c = false from has_end (by rw [hidx.out, hn.out]; omega))
        go_wp2
        go_ret2
        exact ⟨ret_ib (a := hi) (b := false) (by rw [hidx.out]) hh.out.symm, hx⟩

theorem find_any (A : Option Addr) (n cap : Nat) (l : List (Int × Int)) (c : Int) (w : World) (hv : Vec w A l) (hn : l.length = n) (hm : mayFrom 0 l = true) (hb : n ≤ 1000) :
    Calls Try.prog 17 #[.slice A n cap, Vu c] w fun e w' => e = .returned (.tuple #[.int .i64 (idxOf l c : Nat), .bool (hasOf l c)]) ∧ Ext w w' := by
  have hc := Lib.hid (search_any A n cap l c w hv hn hm hb)
  clear hv hn hm
  generalize idxOf l c = i at *
  generalize hasOf l c = h at *
  go_enter Try.func17, Try.ntmps17
  go_wp2_with fail
  refine hc.out.mono ?_
  rintro e w1 ⟨rfl, x1⟩
  go_wp2
  go_ret2
  exact ⟨rfl, x1⟩

theorem next_any (A : Option Addr) (n cap : Nat) (l : List (Int × Int)) (c : Int) (w : World) (hv : Vec w A l) (hn : l.length = n) (hm : mayFrom 0 l = true) (hb : n ≤ 1000) :
    Calls Try.prog 13 #[.slice A n cap, Vu c] w fun e w' => e = .returned (Vu (nextOf l c)) ∧ Ext w w' := by
  have hc := Lib.hid (find_any A n cap l c w hv hn hm hb)
  by_cases hh : hasOf l c = true
  · obtain ⟨q, hq⟩ := idx_has hh
    have hq2 := Lib.hid (idx_next hm hq)
    have hlt : idxOf l c < n := by
      rw [← hn]
      exact (List.getElem?_eq_some_iff.1 hq).1
    obtain ⟨b, o, x, y, rfl, hp, c0, c1⟩ := hv.at (k := idxOf l c) (by rw [hn]; exact hlt)
    rw [hq] at hp
    injection hp with hp
    injection hp with e1 e2
    subst e1
    subst e2
    rw [hh] at hc
    clear hv hn hm hh hq
    generalize idxOf l c = i at *
    go_enter Try.func13, Try.ntmps13
    go_wp2_with fail
    refine hc.out.mono ?_
    rintro e w1 ⟨rfl, x1⟩
    replace c0 := x1.keep c0
    replace c1 := x1.keep c1
    go_wp2
    go_ret
    exact ⟨ret_u32 (a := q) hq2.out.symm, x1⟩
  · have hh' : hasOf l c = false := by simpa using hh
    have hz := Lib.hid (has_not hm hh')
    rw [hh'] at hc
    clear hv hn hm hh hh'
    generalize idxOf l c = i at *
    go_enter Try.func13, Try.ntmps13
    go_wp2_with fail
    refine hc.out.mono ?_
    rintro e w1 ⟨rfl, x1⟩
    go_wp2
    go_ret
    exact ⟨ret_u32 (a := 0) hz.out.symm, x1⟩

set_option maxHeartbeats 1000000 in
theorem covers_any (A B : Option Addr) (n m cap cap' : Nat) (l r : List (Int × Int)) (w : World) (hv : Vec w A l) (hu : Vec w B r) (hn : l.length = n) (hm : r.length = m) (hmay : mayFrom 0 l = true) (hb : n ≤ 1000) (hb' : m ≤ 1000) :
    Calls Try.prog 15 #[.slice A n cap, .slice B m cap'] w fun e w' => e = .returned (.bool (coversOf l r)) ∧ Ext w w' := by
  replace hn := Lib.hid hn
  replace hm := Lib.hid hm
  replace hv := Lib.hid hv
  replace hu := Lib.hid hu
  replace hmay := Lib.hid hmay
  go_enter Try.func15, Try.ntmps15
  go_wp2
  go_loopw [9] (fun i W => ∃ (k : Nat), k ≤ m ∧ i = .int .i64 k ∧ Hid (coversOf l r = coversOf l (r.drop k)) ∧ Ext w W) (fun i _ => m - (intOf i).toNat)
  case atStart => exact ⟨0, Nat.zero_le _, rfl, Lib.hid (by simp), Ext.refl _⟩
  case round =>
    obtain ⟨k, hk, rfl, hrel, hx⟩ := hrel
    by_cases hlt : k < m
    · obtain ⟨b, o, x, y, rfl, hp, c0, c1⟩ := (hu.out.ext hx).at (k := k) (by rw [hm.out]; exact hlt)
      have hd := Lib.hid (covers_drop (a := l) hp)
      clear hp
      have hvx := Lib.hid (hv.out.ext hx)
      have hcall := Lib.hid (fun W (h : Ext wr W) => next_any A n cap l x W (hvx.out.ext h) hn.out hmay.out hb)
      by_cases hc : nextOf l x < y
      · have hd' := Lib.hid (show coversOf l (r.drop k) = false by rw [hd.out, decide_eq_false (by omega), Bool.false_and])
        clear hd
        generalize nextOf l x = q at *
        go_wp2_with fail
        have q0 : (wr.alloc (Obj.cells #[Value.int IntKind.u32 x, Value.int IntKind.u32 y] 33)).cell? ⟨wr.heap.size, 0, none⟩ = some (Vu x) := by simp [go_sem]
        have q1 : (wr.alloc (Obj.cells #[Value.int IntKind.u32 x, Value.int IntKind.u32 y] 33)).cell? ⟨wr.heap.size, 1, none⟩ = some (Vu y) := by simp [go_sem]
        have x1 : Ext wr (wr.alloc (Obj.cells #[Value.int IntKind.u32 x, Value.int IntKind.u32 y] 33)) := (Ext.refl _).alloc _
        generalize wr.alloc (Obj.cells #[Value.int IntKind.u32 x, Value.int IntKind.u32 y] 33) = W at *
        generalize wr.heap.size = py at *
        replace q0 := cell_regrown q0
        replace q1 := cell_regrown q1
        refine wp_region_quiet_below (by kernel_rfl) (by kernel_rfl) ?_
        repeat go_big_quiet_step ((with_reducible exact Calls.in_regrown (hcall.out _ (x1.trans (Ext.regrown _ _ _)))))
        refine wpQuiet_nil ?_
        intro _ hw'
        obtain ⟨⟨dq, osq⟩, hw''⟩ := hw'
        subst hw''
        go_wp2
        go_ret
        exact ⟨ret_bool (a := false) (by rw [hrel.out, hd'.out]), (hx.trans x1).trans (Ext.regrown _ _ _)⟩
      · have hd' := Lib.hid (show coversOf l (r.drop k) = coversOf l (r.drop (k + 1)) by rw [hd.out, decide_eq_true (by omega), Bool.true_and])
        have hc' : decide (nextOf l x < y) = false := by simpa using hc
        clear hd hc
        generalize nextOf l x = q at *
        go_wp2_with fail
        have q0 : (wr.alloc (Obj.cells #[Value.int IntKind.u32 x, Value.int IntKind.u32 y] 33)).cell? ⟨wr.heap.size, 0, none⟩ = some (Vu x) := by simp [go_sem]
        have q1 : (wr.alloc (Obj.cells #[Value.int IntKind.u32 x, Value.int IntKind.u32 y] 33)).cell? ⟨wr.heap.size, 1, none⟩ = some (Vu y) := by simp [go_sem]
        have x1 : Ext wr (wr.alloc (Obj.cells #[Value.int IntKind.u32 x, Value.int IntKind.u32 y] 33)) := (Ext.refl _).alloc _
        generalize wr.alloc (Obj.cells #[Value.int IntKind.u32 x, Value.int IntKind.u32 y] 33) = W at *
        generalize wr.heap.size = py at *
        replace q0 := cell_regrown q0
        replace q1 := cell_regrown q1
        refine wp_region_quiet_below (by kernel_rfl) (by kernel_rfl) ?_
        repeat go_big_quiet_step ((with_reducible exact Calls.in_regrown (hcall.out _ (x1.trans (Ext.regrown _ _ _)))))
        refine wpQuiet_nil ?_
        intro _ hw'
        obtain ⟨⟨dq, osq⟩, hw''⟩ := hw'
        subst hw''
        go_wp2
        go_roundw
        case rel => exact ⟨k + 1, by omega, by go_num, Lib.hid (by rw [hrel.out, hd'.out]), (hx.trans x1).trans (Ext.regrown _ _ _)⟩
        case measure => simp [intOf]; omega
    · go_wp2
      go_ret
      exact ⟨ret_bool (a := true) (by rw [hrel.out, List.drop_eq_nil_of_le (by rw [hm.out]; omega)]; rfl), hx⟩

end Go.Proofs.Ytbniojfggiioaaa
