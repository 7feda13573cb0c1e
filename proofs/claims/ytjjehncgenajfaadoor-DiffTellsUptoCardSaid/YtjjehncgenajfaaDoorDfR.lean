/-
  The reference's Diff and Do: contracts; no claim stands here.
-/
import Derived.Test.YtjjehncgenajfaaDoorDfB
import Derived.Deep.DeepCutAuto
import Derived.Deep.CutBlock
import Derived.BigQuiet
import Derived.Laws.Concat
namespace Go.Proofs.YtjjehncgenajfaaDoor
open Go.ChangeShapes Go.WideShapes Go.ChangeAt Go.RowKit Go.Sort
set_option linter.unusedVariables false
attribute [local go_sem] World.cell?_alloc_some

theorem rev_at {l : List Nat} {p j : Nat} (h : j < l.length - p) : (l.drop p).reverse[j]? = l[l.length - 1 - j]? := by
  rw [List.getElem?_reverse (by rw [List.length_drop]; exact h), List.length_drop, List.getElem?_drop]
  congr 1
  omega
theorem cs_is {a b : List Nat} {k : Nat} (hk : cpN a b + k ≤ min a.length b.length) (hp : ∀ j, j < k → a[a.length - 1 - j]? = b[b.length - 1 - j]?)
    (hend : cpN a b + k = min a.length b.length ∨ ∃ x y, a[a.length - 1 - k]? = some x ∧ b[b.length - 1 - k]? = some y ∧ x ≠ y ∧ cpN a b + k < min a.length b.length) : csN a b = k := by
  have k1 : cpN a b + k ≤ a.length := Nat.le_trans hk (Nat.min_le_left _ _)
  have k2 : cpN a b + k ≤ b.length := Nat.le_trans hk (Nat.min_le_right _ _)
  have hp' : ∀ j, j < k → (a.drop (cpN a b)).reverse[j]? = (b.drop (cpN a b)).reverse[j]? := fun j hj => by
    clear hend hk
    rw [rev_at (by omega), rev_at (by omega)]; exact hp j hj
  unfold csN
  rcases hend with h | ⟨x, y, h1, h2, h3, h4⟩
  · refine cp_end hp' ?_
    simp only [List.length_reverse, List.length_drop]
    clear hp hp' hk
    omega
  · have k3 : cpN a b + k < a.length := Nat.lt_of_lt_of_le h4 (Nat.min_le_left _ _)
    have k4 : cpN a b + k < b.length := Nat.lt_of_lt_of_le h4 (Nat.min_le_right _ _)
    clear hk h4
    exact cp_at hp' (by rw [rev_at (by omega)]; exact h1) (by rw [rev_at (by omega)]; exact h2) h3

/-- what Diff tells -/
def dfV (s t : List UInt8) : Value :=
  if s = t then .tuple #[.agg #[Vi 0, Vi 0, Vs []], .bool false]
  else .tuple #[.agg #[Vi (cpN (runesD s) (runesD t) : Nat), Vi (dfD (runesD s) (runesD t) : Nat), Vs (encU (dfI (runesD s) (runesD t)))], .bool true]

set_option maxRecDepth 100000 in
set_option maxHeartbeats 8000000 in
theorem diff_ref (s t : List UInt8) (hs : Lib.validD s = true) (ht : Lib.validD t = true) (hsl : s.length ≤ 100000) (htl : t.length ≤ 100000) (w : World) :
    Calls Tryd.prog 8 #[Vs s, Vs t] w fun e w' => e = .returned (dfV s t) ∧ Ext w w' := by
  have h1 := Lib.hid (fun W => chars_any ⟨s.toArray⟩ (by show s.toArray.size ≤ _; simp; omega) W)
  have h2 := Lib.hid (fun W => chars_any ⟨t.toArray⟩ (by show t.toArray.size ≤ _; simp; omega) W)
  have hal := runesD_len s
  have hbl := runesD_len t
  obtain ⟨R, hR⟩ : ∃ R, dfV s t = R := ⟨_, rfl⟩
  rw [hR]
  go_enter Tryd.func8, Tryd.ntmps8
  go_wp2_with fail
  refine (h1.out _).mono ?_
  rintro e w1 ⟨h, x1⟩
  rcases h with ⟨h, _⟩ | ⟨_, va, rfl, oa⟩
  · rw [hs] at h; cases h
  go_wp2_with fail
  refine (h2.out _).mono ?_
  rintro e w2 ⟨h, x2⟩
  rcases h with ⟨h, _⟩ | ⟨_, vb, rfl, ob⟩
  · rw [ht] at h; cases h
  clear h1 h2
  have bx : BxE (w.alloc (.cells #[.int .i64 0, .int .i64 0, .string ⟨#[]⟩] 27)) w.heap.size 0 0 [] := heap_alloc_new w _
  have xw := Ext.trans ((Ext.refl w).alloc _) x1
  replace bx := Lib.hid ((bx.ext x1).ext x2)
  obtain ⟨p4, hp4⟩ : ∃ p, w.heap.size = p := ⟨_, rfl⟩
  rw [hp4] at bx ⊢
  replace hp4 := Lib.hid (show w.heap.size ≤ p4 by omega)
  obtain ⟨A, ca, rfl, hca⟩ := OwnG.form oa
  obtain ⟨B, cb, rfl, hcb⟩ := OwnG.form ob
  have hA0 := OwnG.row oa
  have hB := Lib.hid (OwnG.row ob)
  have hA := Lib.hid (hA0.ext x2)
  replace xw := Lib.hid (xw.trans x2)
  clear oa ob x1 x2 hA0
  have hR0 := Lib.hid (show dfV s t = R from hR)
  unfold dfV at hR
  generalize runesD s = a at *
  generalize runesD t = b at *
  obtain ⟨n, hn⟩ : ∃ n, a.length = n := ⟨_, rfl⟩
  obtain ⟨m, hm⟩ : ∃ n, b.length = n := ⟨_, rfl⟩
  have hc1 := cp_le a b
  have hc2 := cs_le a b
  have hd1 : dfD a b = n - csN a b - cpN a b := by unfold dfD; rw [hn]
  have hdi := Lib.hid (show dfI a b = (b.take (m - csN a b)).drop (cpN a b) by unfold dfI; rw [hm])
  have hil := df_len a b
  rw [hn, hm] at hc1 hc2
  rw [hn] at hal hca ⊢
  rw [hm] at hbl hcb hil ⊢
  replace hn := Lib.hid hn
  replace hm := Lib.hid hm
  go_upto_block 0 with fail
  go_cut [10] (fun s wx => s = Vi ((cpN a b : Nat) : Int) ∧ Hid (Ext w2 wx))
  case first =>
    clear hR hR0 hd1 hil bx
    go_wp2_with fail
    go_loopw [10] (fun s W => ∃ k : Nat, k ≤ n ∧ k ≤ m ∧ s = Vi k ∧ Hid (∀ j, j < k → a[j]? = b[j]?) ∧ Ext w2 W) (fun s _ => n - (intOf s).toNat)
    case atStart => exact ⟨0, Nat.zero_le _, Nat.zero_le _, rfl, Lib.hid (fun j h => absurd h (by omega)), Ext.refl _⟩
    case round =>
      obtain ⟨k, hkn, hkm, rfl, hp, hx⟩ := hrel
      by_cases hlt : k < n ∧ k < m
      · obtain ⟨hl1, hl2⟩ := hlt
        obtain ⟨b1, o1, x, hAe, hax, cx⟩ := row_at (hA.out.ext hx) (k := k) (by rw [hn.out]; exact hl1)
        obtain ⟨b2, o2, y, hBe, hby, cy⟩ := row_at (hB.out.ext hx) (k := k) (by rw [hm.out]; exact hl2)
        have hi1 : (0 : Int) ≤ (k : Int) := by omega
        have hi2 : (k : Int) < (n : Int) := by omega
        have hi3 : (k : Int) < (m : Int) := by omega
        subst hAe
        subst hBe
        cases hq : ((x : Int) != (y : Int)) with
        | false =>
          have e : x = y := Int.ofNat.inj (show (x : Int) = (y : Int) by simpa using hq)
          have hp2 := Lib.hid (show ∀ j, j < k + 1 → a[j]? = b[j]? from fun j hj => by
            by_cases ej : j = k
            · rw [ej, hax, hby, e]
            · exact hp.out j (by omega))
          clear e hax hby
          go_wp2_with fail
          all_goals
            go_quiet (fail)
            go_wp2
            go_roundw
            case rel => exact ⟨k + 1, by omega, by omega, by go_num, hp2, hx.drewN _⟩
            case measure => simp [intOf]; omega
        | true =>
          have e : x ≠ y := fun e0 => (show (x : Int) ≠ (y : Int) by simpa using hq) (by rw [e0])
          have hfin := Lib.hid (show cpN a b = k from cp_at hp.out hax hby e)
          clear e hax hby
          go_wp2_with fail
          all_goals
            go_quiet (fail)
            go_wp2_with fail
            go_meet
            exact ⟨by rw [hfin.out], Lib.hid (hx.drewN _)⟩
      · have hfin := Lib.hid (show cpN a b = k from cp_end hp.out (by rw [hn.out, hm.out]; omega))
        rcases Nat.le_total n m with hnm | hnm
        · have hkz : ¬ k < n := by omega
          go_wp2_with fail
          all_goals
            go_meet
            exact ⟨by rw [hfin.out], Lib.hid hx⟩
        · have hkz : ¬ k < m := by omega
          go_wp2_with fail
          all_goals
            go_meet
            exact ⟨by rw [hfin.out], Lib.hid hx⟩
  case rest =>
    obtain ⟨rfl, hxc⟩ := hcut
    have hcs := Lib.hid (fun k => cs_is (a := a) (b := b) (k := k))
    rw [hn.out, hm.out] at hcs
    generalize cpN a b = p at *
    go_upto_block 2 with fail
    go_cut [11] (fun s wx => s = Vi ((csN a b : Nat) : Int) ∧ Hid (Ext w2 wx))
    case first =>
      clear hR hR0 hd1 hil bx
      go_wp2_with fail
      go_loopw [11] (fun s W => ∃ k : Nat, p + k ≤ n ∧ p + k ≤ m ∧ s = Vi k ∧ Hid (∀ j, j < k → a[n - 1 - j]? = b[m - 1 - j]?) ∧ Ext w2 W) (fun s _ => n - (intOf s).toNat)
      case atStart => exact ⟨0, by omega, by omega, rfl, Lib.hid (fun j h => absurd h (by omega)), hxc.out⟩
      case round =>
        obtain ⟨k, hkn, hkm, rfl, hp, hx⟩ := hrel
        have hw5 : IntKind.i64.wrap ((n : Int) - (p : Int)) = ((n - p : Nat) : Int) := by rw [IntWalk.i64_in _ (by omega)]; omega
        have hw6 : IntKind.i64.wrap ((m : Int) - (p : Int)) = ((m - p : Nat) : Int) := by rw [IntWalk.i64_in _ (by omega)]; omega
        by_cases hlt : p + k < n ∧ p + k < m
        · obtain ⟨hl1, hl2⟩ := hlt
          have hk5 : k < n - p := by omega
          have hk6 : k < m - p := by omega
          have hw1 : IntKind.i64.wrap ((n : Int) - 1) = (n : Int) - 1 := IntWalk.i64_in _ (by omega)
          have hw2 : IntKind.i64.wrap ((m : Int) - 1) = (m : Int) - 1 := IntWalk.i64_in _ (by omega)
          have hw3 : IntKind.i64.wrap ((n : Int) - 1 - (k : Int)) = ((n - 1 - k : Nat) : Int) := by rw [IntWalk.i64_in _ (by omega)]; omega
          have hw4 : IntKind.i64.wrap ((m : Int) - 1 - (k : Int)) = ((m - 1 - k : Nat) : Int) := by rw [IntWalk.i64_in _ (by omega)]; omega
          obtain ⟨b1, o1, x, hAe, hax, cx⟩ := row_at (hA.out.ext hx) (k := n - 1 - k) (by rw [hn.out]; omega)
          obtain ⟨b2, o2, y, hBe, hby, cy⟩ := row_at (hB.out.ext hx) (k := m - 1 - k) (by rw [hm.out]; omega)
          have hi1 : (0 : Int) ≤ ((n - 1 - k : Nat) : Int) := by omega
          have hi2 : ((n - 1 - k : Nat) : Int) < (n : Int) := by omega
          have hi3 : (0 : Int) ≤ ((m - 1 - k : Nat) : Int) := by omega
          have hi4 : ((m - 1 - k : Nat) : Int) < (m : Int) := by omega
          subst hAe
          subst hBe
          cases hq : ((x : Int) != (y : Int)) with
          | false =>
            have e : x = y := Int.ofNat.inj (show (x : Int) = (y : Int) by simpa using hq)
            have hp2 := Lib.hid (show ∀ j, j < k + 1 → a[n - 1 - j]? = b[m - 1 - j]? from fun j hj => by
              by_cases ej : j = k
              · rw [ej, hax, hby, e]
              · exact hp.out j (by omega))
            clear e hax hby
            generalize n - 1 - k = i1 at *
            generalize m - 1 - k = i2 at *
            generalize n - p = np at *
            generalize m - p = mp at *
            go_wp2_with fail
            all_goals
              go_quiet (fail)
              go_wp2
              go_roundw
              case rel => exact ⟨k + 1, by omega, by omega, by go_num, hp2, hx.drewN _⟩
              case measure => simp [intOf]; omega
          | true =>
            have e : x ≠ y := fun e0 => (show (x : Int) ≠ (y : Int) by simpa using hq) (by rw [e0])
            have hfin := Lib.hid (show csN a b = k from hcs.out k (by omega) hp.out (.inr ⟨x, y, hax, hby, e, by omega⟩))
            clear e hax hby
            generalize n - 1 - k = i1 at *
            generalize m - 1 - k = i2 at *
            generalize n - p = np at *
            generalize m - p = mp at *
            go_wp2_with fail
            all_goals
              go_quiet (fail)
              go_wp2_with fail
              go_meet
              exact ⟨by rw [hfin.out], Lib.hid (hx.drewN _)⟩
        · have hfin := Lib.hid (show csN a b = k from hcs.out k (by omega) hp.out (.inl (by omega)))
          rcases Nat.le_total n m with hnm | hnm
          · have hkz : ¬ k < n - p := by omega
            generalize n - p = np at *
            generalize m - p = mp at *
            go_wp2_with fail
            all_goals
              go_meet
              exact ⟨by rw [hfin.out], Lib.hid hx⟩
          · have hkz : ¬ k < m - p := by omega
            generalize n - p = np at *
            generalize m - p = mp at *
            go_wp2_with fail
            all_goals
              go_meet
              exact ⟨by rw [hfin.out], Lib.hid hx⟩
    case rest =>
      clear hcs
      obtain ⟨rfl, hxq⟩ := hcut
      have hI := Lib.hid (show Row wc B (b.map Vr) from hB.out.ext hxq.out)
      have hbx := bx.out.ext hxq.out
      obtain ⟨c0, c1, c2⟩ := hbx.cells
      have f0 := hbx.thaw 0
      have f1 := hbx.thaw 1
      have f2 := hbx.thaw 2
      have hX := Lib.hid (xw.out.trans hxq.out)
      replace hbx := Lib.hid hbx
      clear hA hB bx xw hxc hxq
      by_cases hst : s = t
      · subst hst
        rw [if_pos rfl] at hR
        replace hR := Lib.hid hR
        go_wp2_with fail
        obtain ⟨y0, y1, y2⟩ := (hbx.out.all 0 0 []).cells
        exact bodyPost_ret (v := .tuple #[.agg #[Vi 0, Vi 0, Vs []], .bool false]) (by simp [results, Tryd.results8, go_sem, y0, y1, y2]) rfl ⟨by rw [hR.out], ((hX.out.setCell hp4.out _).setCell hp4.out _).setCell hp4.out _⟩
      · rw [if_neg hst] at hR
        have hne : (s == t) = false := by simpa using hst
        generalize hq : csN a b = q at *
        have hD : ((dfD a b : Nat) : Int) = (n : Int) - (q : Int) - (p : Int) := by omega
        have hL : (dfI a b).length = m - q - p := hil
        have htx : (convert 23 9 (.slice (cutA B cb p 1) (m - q - p) (cb - p))).run Tryd.prog wc = .ok (Vs (encU (dfI a b))) wc := by
          refine textU ?_ hL
          have := rowU_cut (rowU_take hI.out (m - q)) (n := m - q) (cap := cb) (k := p) (by rw [List.length_take, hm.out]; omega) (by omega) (by omega)
          have e : dfI a b = (b.take (m - q)).drop p := hdi.out
          rw [e]; exact this
        have hwa : IntKind.i64.wrap ((n : Int) - (q : Int)) = (n : Int) - (q : Int) := IntWalk.i64_in _ (by omega)
        have hwb : IntKind.i64.wrap ((n : Int) - (q : Int) - (p : Int)) = (n : Int) - (q : Int) - (p : Int) := IntWalk.i64_in _ (by omega)
        have hwc : IntKind.i64.wrap ((m : Int) - (q : Int)) = (m : Int) - (q : Int) := IntWalk.i64_in _ (by omega)
        have hmid := fun W : World => midU B m cb p (m - q) (by omega) (by omega) (p : Int) ((m : Int) - (q : Int)) rfl (by omega) W
        rw [hD] at hR
        replace hR := Lib.hid hR
        go_wp2_with fail
        obtain ⟨y0, y1, y2⟩ := (hbx.out.all (p : Int) ((n : Int) - (q : Int) - (p : Int)) (encU (dfI a b))).cells
        exact bodyPost_ret (v := .tuple #[.agg #[Vi (p : Int), Vi ((n : Int) - (q : Int) - (p : Int)), Vs (encU (dfI a b))], .bool true]) (by simp [results, Tryd.results8, go_sem, y0, y1, y2]) rfl ⟨by rw [hR.out], ((hX.out.setCell hp4.out _).setCell hp4.out _).setCell hp4.out _⟩

/-- can a change be done -/
def doOK (n : Nat) (at' del : Int) : Bool := decide (0 ≤ at') && decide (0 ≤ del) && decide (at' + del ≤ (n : Int))
/-- the text with it done -/
def doB (s : List UInt8) (at' del : Int) (ins : List UInt8) : List UInt8 := encU ((runesD s).take at'.toNat) ++ ins ++ encU ((runesD s).drop (at'.toNat + del.toNat))
def doRV (s : List UInt8) (at' del : Int) (ins : List UInt8) : Value := if doOK (runesD s).length at' del then .tuple #[Vs (doB s at' del ins), .bool true] else .tuple #[Vs [], .bool false]
theorem doOK_no {n : Nat} {at' del : Int} (h : at' < 0 ∨ del < 0 ∨ (n : Int) < at' ∨ (n : Int) - at' < del) : doOK n at' del = false := by
  unfold doOK
  rw [Bool.eq_false_iff]
  intro e
  simp only [Bool.and_eq_true, decide_eq_true_eq] at e
  omega
theorem doOK_yes {n : Nat} {at' del : Int} (h1 : 0 ≤ at') (h2 : 0 ≤ del) (h3 : at' + del ≤ (n : Int)) : doOK n at' del = true := by
  unfold doOK
  simp only [Bool.and_eq_true, decide_eq_true_eq]
  omega

set_option maxRecDepth 100000 in
set_option maxHeartbeats 8000000 in
theorem do_ref (s : List UInt8) (hs : Lib.validD s = true) (hsl : s.length ≤ 100000) (at' del : Int) (ins : List UInt8) (hil : ins.length ≤ 100000) (w : World) :
    Calls Tryd.prog 10 #[Vs s, .agg #[Vi at', Vi del, Vs ins]] w fun e w' => e = .returned (doRV s at' del ins) ∧ Ext w w' := by
  have h1 := Lib.hid (fun W => chars_any ⟨s.toArray⟩ (by show s.toArray.size ≤ _; simp; omega) W)
  have hal := runesD_len s
  obtain ⟨R, hR⟩ : ∃ R, doRV s at' del ins = R := ⟨_, rfl⟩
  rw [hR]
  go_enter Tryd.func10, Tryd.ntmps10
  go_wp2_with fail
  refine (h1.out _).mono ?_
  rintro e w1 ⟨h, x1⟩
  rcases h with ⟨h, _⟩ | ⟨_, va, rfl, oa⟩
  · rw [hs] at h; cases h
  clear h1
  have bx : BxE (w.alloc (.cells #[Vi at', Vi del, Vs ins] 27)) w.heap.size at' del ins := heap_alloc_new w _
  obtain ⟨c0, c1, c2⟩ := (bx.ext x1).cells
  have xw := Lib.hid (Ext.trans ((Ext.refl w).alloc _) x1)
  obtain ⟨A, ca, rfl, hca⟩ := OwnG.form oa
  have hA := Lib.hid (OwnG.row oa)
  clear oa bx x1
  generalize w.heap.size = p4 at *
  unfold doRV doB at hR
  generalize runesD s = a at *
  obtain ⟨n, hn⟩ : ∃ n, a.length = n := ⟨_, rfl⟩
  rw [hn] at hal hca hR ⊢
  replace hn := Lib.hid hn
  have hz : ((⟨#[]⟩ : ByteArray)) = ⟨([] : List UInt8).toArray⟩ := rfl
  by_cases k1 : at' < 0
  · rw [doOK_no (.inl k1)] at hR
    replace hR := Lib.hid hR
    go_wp2
    go_ret2
    exact ⟨by rw [← hR.out]; rfl, xw.out⟩
  by_cases k2 : del < 0
  · rw [doOK_no (.inr (.inl k2))] at hR
    replace hR := Lib.hid hR
    go_wp2
    go_ret2
    exact ⟨by rw [← hR.out]; rfl, xw.out⟩
  by_cases k3 : (n : Int) < at'
  · rw [doOK_no (.inr (.inr (.inl k3)))] at hR
    replace hR := Lib.hid hR
    go_wp2
    go_ret2
    exact ⟨by rw [← hR.out]; rfl, xw.out⟩
  obtain ⟨i, rfl⟩ : ∃ i : Nat, at' = i := ⟨at'.toNat, by omega⟩
  obtain ⟨d, rfl⟩ : ∃ i : Nat, del = i := ⟨del.toNat, by omega⟩
  have hwn : IntKind.i64.wrap ((n : Int) - (i : Int)) = (n : Int) - (i : Int) := IntWalk.i64_in _ (by omega)
  by_cases k4 : (n : Int) - (i : Int) < (d : Int)
  · rw [doOK_no (.inr (.inr (.inr k4)))] at hR
    replace hR := Lib.hid hR
    go_wp2
    go_ret2
    exact ⟨by rw [← hR.out]; rfl, xw.out⟩
  · rw [doOK_yes (by omega) (by omega) (by omega), if_pos rfl, Int.toNat_natCast, Int.toNat_natCast] at hR
    replace hR := Lib.hid hR
    have hwa : IntKind.i64.wrap ((i : Int) + (d : Int)) = (i : Int) + (d : Int) := IntWalk.i64_in _ (by omega)
    have hup := fun W : World => uptoU3 A n ca i (by omega) (i : Int) rfl W
    have hfr := fun W : World => fromU A n ca (i + d) (by omega) ((i : Int) + (d : Int)) (by omega) W
    have t1 : ∀ k : Nat, (convert 23 9 (.slice A i ca)).run Tryd.prog (w1.drewN k) = .ok (Vs (encU (a.take i))) (w1.drewN k) := fun k => textU (rowU_take (hA.out.ext ((Ext.refl w1).drewN k)) i) (by rw [List.length_take, hn.out]; omega)
    have t2 : ∀ k : Nat, (convert 23 9 (.slice (cutA A ca (i + d) 1) (n - (i + d)) (ca - (i + d)))).run Tryd.prog (w1.drewN k) = .ok (Vs (encU (a.drop (i + d)))) (w1.drewN k) := fun k => textU (rowU_cut (hA.out.ext ((Ext.refl w1).drewN k)) hn.out hca (by omega)) (by rw [List.length_drop, hn.out])
    have hx1 := encU_len (a.take i)
    have hx2 := encU_len (a.drop (i + d))
    rw [List.length_take, hn.out] at hx1
    rw [List.length_drop, hn.out] at hx2
    generalize encU (a.take i) = X at *
    generalize encU (a.drop (i + d)) = Y at *
    have hadd1 : ∀ W : World, (Op.stringOp .add ⟨X.toArray⟩ ⟨ins.toArray⟩).run Tryd.prog W = .ok (Vs (X ++ ins)) W := fun W => run_string_add_lists W X ins (by omega) (by omega)
    have hadd2 : ∀ W : World, (Op.stringOp .add ⟨(X ++ ins).toArray⟩ ⟨Y.toArray⟩).run Tryd.prog W = .ok (Vs (X ++ ins ++ Y)) W := fun W => run_string_add_lists W (X ++ ins) Y (by rw [List.length_append]; omega) (by omega)
    clear hx1 hx2
    go_wp2_with fail
    go_quiet (fail)
    go_wp2
    go_ret2
    exact ⟨by rw [← hR.out]; simp, xw.out.drewN _⟩

end Go.Proofs.YtjjehncgenajfaaDoor
