/-
  Contracts of the law's Apart and find, of the reference's Shown and SameEntries; no claim stands here.
-/
import Derived.Test.YtanknhalgoheeaaXMem
namespace Go.Proofs.Ytanknhalgoheeaa
open Go.ChangeShapes Go.WideShapes Go.ChangeAt Go.RowKit Go.Sort
set_option linter.unusedVariables false
attribute [local go_sem] World.cell?_alloc_some

theorem idE_eql (a b c d : Int) (P : Program) (W : World) : (binOp .eql 36 (.agg #[.int .u32 a, .int .u32 b]) (.agg #[.int .u32 c, .int .u32 d])).run Try.prog W = .ok (.bool (decide (a = c ∧ b = d))) W := by
  by_cases h1 : a = c
  · by_cases h2 : b = d
    · subst h1; subst h2; simp [go_sem]
    · have : (b == d) = false := by simpa using h2
      subst h1
      simp [go_sem, this, h2]
  · have : (a == c) = false := by simpa using h1
    simp [go_sem, this, h1]

/-- what the law's find answers -/
def findV (l : List En) (c k : Int) : Int := match findE l c k with
  | none => -1
  | some i => (i : Int)
theorem findV_none {l : List En} {c k : Int} (h : findE l c k = none) : findV l c k = -1 := by unfold findV; rw [h]
theorem findV_some {l : List En} {c k : Int} {i : Nat} (h : findE l c k = some i) : findV l c k = (i : Int) := by unfold findV; rw [h]
set_option maxRecDepth 100000 in
set_option maxHeartbeats 4000000 in
theorem findL_any (A : Option Addr) (n cap : Nat) (l : List En) (c k : Int) (w : World) (hv : EnS w A l) (hn : l.length = n) (hb : n ≤ 100000) :
    Calls Try.prog 9 #[.slice A n cap, idv c k] w fun e w' => e = .returned (Vi (findV l c k)) ∧ Ext w w' := by
  obtain ⟨R, hR⟩ : ∃ R : Int, findV l c k = R := ⟨_, rfl⟩
  rw [hR]
  unfold findV at hR
  have hR0 := Lib.hid (show (match findE (l.drop 0) c k with | none => (-1 : Int) | some i => ((i + 0 : Nat) : Int)) = R from hR)
  clear hR
  replace hn := Lib.hid hn
  replace hv := Lib.hid hv
  have heq := idE_eql
  go_enter Try.func9, Try.ntmps9
  go_wp2
  have x0 : Ext w (w.alloc (.cells #[.int .u32 c, .int .u32 k] 36)) := (Ext.refl _).alloc _
  have a0 : (w.alloc (.cells #[.int .u32 c, .int .u32 k] 36)).cell? ⟨w.heap.size, 0, none⟩ = some (Vu c) := by simp [go_sem]
  have a1 : (w.alloc (.cells #[.int .u32 c, .int .u32 k] 36)).cell? ⟨w.heap.size, 1, none⟩ = some (Vu k) := by simp [go_sem]
  generalize w.alloc (.cells #[.int .u32 c, .int .u32 k] 36) = w0 at *
  generalize w.heap.size = pa at *
  go_loopw [5] (fun i W => ∃ (j : Nat), j ≤ n ∧ i = Vi j ∧ Hid ((match findE (l.drop j) c k with | none => (-1 : Int) | some i => ((i + j : Nat) : Int)) = R) ∧ Ext w0 W) (fun i _ => n - (intOf i).toNat)
  case atStart => exact ⟨0, Nat.zero_le _, rfl, hR0, Ext.refl _⟩
  case round =>
    clear hR0
    obtain ⟨j, hj, rfl, hrel, hx⟩ := hrel
    have y0 := hx.keep a0
    have y1 := hx.keep a1
    by_cases hlt : j < n
    · obtain ⟨b, o, x, rfl, hp, d⟩ := (hv.out.ext (x0.trans hx)).at (k := j) (by rw [hn.out]; exact hlt)
      obtain ⟨c0, c1, c2, c3⟩ := d
      have hi1 : (0 : Int) ≤ (j : Int) := by omega
      have hi2 : (j : Int) < (n : Int) := by omega
      by_cases hs : x.c = c ∧ x.k = k
      · have hd : decide (x.c = c ∧ x.k = k) = true := decide_eq_true hs
        have hr := Lib.hid (show (j : Int) = R by rw [← hrel.out, find_here hp (by unfold sameE; exact hd)]; simp)
        have hq : ∀ W : World, (binOp .eql 36 (.agg #[.int .u32 x.c, .int .u32 x.k]) (.agg #[.int .u32 c, .int .u32 k])).run Try.prog W = .ok (.bool true) W := fun W => by rw [idE_eql _ _ _ _ Try.prog, hd]
        clear hs hd hp hrel heq
        go_wp2
        go_quiet (fail)
        go_wp2
        go_ret
        exact ⟨ret_i64 hr.out, (x0.trans hx).drewN _⟩
      · have hd : decide (x.c = c ∧ x.k = k) = false := decide_eq_false hs
        have hr := Lib.hid (show (match findE (l.drop (j + 1)) c k with | none => (-1 : Int) | some i => ((i + (j + 1) : Nat) : Int)) = R by
          rw [← hrel.out, find_drop hp (by unfold sameE; exact hd)]
          cases findE (l.drop (j + 1)) c k with
          | none => rfl
          | some i => show ((i + (j + 1) : Nat) : Int) = ((i + 1 + j : Nat) : Int); omega)
        have hq : ∀ W : World, (binOp .eql 36 (.agg #[.int .u32 x.c, .int .u32 x.k]) (.agg #[.int .u32 c, .int .u32 k])).run Try.prog W = .ok (.bool false) W := fun W => by rw [idE_eql _ _ _ _ Try.prog, hd]
        clear hs hd hp hrel heq
        go_wp2
        go_quiet (fail)
        go_wp2
        go_roundw
        case rel => exact ⟨j + 1, by omega, by go_num, hr, hx.drewN _⟩
        case measure => simp [intOf]; omega
    · have hz := Lib.hid (show (-1 : Int) = R by rw [← hrel.out, List.drop_eq_nil_of_le (by rw [hn.out]; omega)]; rfl)
      go_wp2
      go_ret
      exact ⟨ret_i64 hz.out, x0.trans hx⟩

set_option maxRecDepth 100000 in
set_option maxHeartbeats 4000000 in
theorem shownRef_any (A : Option Addr) (n cap : Nat) (l : List En) (w : World) (hv : EnS w A l) (hn : l.length = n) (hb : n ≤ 10000) :
    Calls Try.prog 20 #[.slice A n cap] w fun e w' => ∃ v, e = .returned v ∧ OwnZ w w' v (shownE l) ∧ Ext w w' := by
  obtain ⟨R, hR⟩ : ∃ R, shownE l = R := ⟨_, rfl⟩
  rw [hR]
  have hR0 := Lib.hid (show ([] : List Nat) ++ shownG 0 (l.drop 0) = R from hR)
  have hRl : R.length ≤ n := by rw [← hR, ← hn]; exact shown_len l 0
  clear hR
  replace hn := Lib.hid hn
  replace hv := Lib.hid hv
  go_enter Try.func20, Try.ntmps20
  go_wp2
  go_loopw [3, 4] (fun v i W => ∃ (j : Nat) (o : List Nat), j ≤ n ∧ i = Vi j ∧ Hid (OwnZ w W v o) ∧ o.length ≤ j ∧ Hid (o ++ shownG j (l.drop j) = R) ∧ Ext w W) (fun _ i _ => n - (intOf i).toNat)
  case atStart => exact ⟨0, [], Nat.zero_le _, rfl, Lib.hid (OwnZ.nil _ _), by simp, hR0, Ext.refl _⟩
  case round =>
    clear hR0
    obtain ⟨j, o, hj, rfl, ho, hol, hrel, hx⟩ := hrel
    by_cases hlt : j < n
    · obtain ⟨b, oo, x, rfl, hp, d⟩ := (hv.out.ext hx).at (k := j) (by rw [hn.out]; exact hlt)
      obtain ⟨c0, c1, c2, c3⟩ := d
      have hi1 : (0 : Int) ≤ (j : Int) := by omega
      have hi2 : (j : Int) < (n : Int) := by omega
      have hst := shown_step hp
      cases hg : x.g with
      | true =>
        rw [hg] at c3
        rw [hg, if_pos rfl] at hst
        have hr := Lib.hid (show o ++ shownG (j + 1) (l.drop (j + 1)) = R by rw [← hrel.out, hst])
        clear hst hp hrel hg
        go_wp2
        go_roundw
        case rel => exact ⟨j + 1, o, by omega, by go_num, ho, by omega, hr, hx⟩
        case measure => simp [intOf]; omega
      | false =>
        rw [hg] at c3
        rw [hg, if_neg (by simp)] at hst
        have hr := Lib.hid (show o ++ [j] ++ shownG (j + 1) (l.drop (j + 1)) = R by rw [← hrel.out, hst]; simp)
        clear hst hp hrel hg
        go_wp2_with (at_builtin; go_loud (refine wpList_append_Z (w0 := w) rfl (.tmp 17) (.tmp 19) rfl _ o rfl (ho.out.ext ((Ext.refl _).alloc _)) (hx.alloc _) _ 1 1 [j] rfl rfl (rowZ_new _ j) (by simp only [List.length_cons, List.length_nil]; omega) ?_; intro v3 w3 o3 x3 _))
        go_roundw
        case rel => exact ⟨j + 1, o ++ [j], by omega, by go_num, Lib.hid o3, by simp only [List.length_append, List.length_cons, List.length_nil]; omega, hr, x3⟩
        case measure => simp [intOf]; omega
    · have hz := Lib.hid (show o = R by rw [← hrel.out, List.drop_eq_nil_of_le (by rw [hn.out]; omega)]; simp [shownG])
      go_wp2
      go_ret
      exact ⟨_, rfl, hz.out ▸ ho.out, hx⟩

theorem en_neq (x : En) (W : World) : (binOp .neq 38 (env x) (env x)).run Try.prog W = .ok (.bool false) W := by
  obtain ⟨c, k, ch, g⟩ := x
  cases g <;> simp [go_sem]
set_option maxRecDepth 100000 in
set_option maxHeartbeats 4000000 in
theorem sameE_any (A B : Option Addr) (n cap cap' : Nat) (l : List En) (w : World) (hv : EnS w A l) (hu : EnS w B l) (hn : l.length = n) (hb : n ≤ 100000) :
    Calls Try.prog 21 #[.slice A n cap, .slice B n cap'] w fun e w' => e = .returned (.bool true) ∧ Ext w w' := by
  replace hn := Lib.hid hn
  replace hv := Lib.hid hv
  replace hu := Lib.hid hu
  go_enter Try.func21, Try.ntmps21
  go_wp2
  go_loopw [5] (fun i W => ∃ (k : Nat), k ≤ n ∧ i = .int .i64 k ∧ Ext w W) (fun i _ => n - (intOf i).toNat)
  case atStart => exact ⟨0, Nat.zero_le _, rfl, Ext.refl _⟩
  case round =>
    obtain ⟨k, hk, rfl, hx⟩ := hrel
    by_cases hlt : k < n
    · obtain ⟨b, o, x, rfl, hp, c⟩ := (hv.out.ext hx).at (k := k) (by rw [hn.out]; exact hlt)
      obtain ⟨b', o', x', rfl, hp', c'⟩ := (hu.out.ext hx).at (k := k) (by rw [hn.out]; exact hlt)
      rw [hp] at hp'
      injection hp' with hp'
      subst hp'
      clear hp
      obtain ⟨c0, c1, c2, c3⟩ := c
      obtain ⟨d0, d1, d2, d3⟩ := c'
      have hnq := en_neq x
      go_wp2
      go_quiet (fail)
      go_wp2
      go_roundw
      case rel => exact ⟨k + 1, by omega, by go_num, hx.drewN _⟩
      case measure => simp [intOf]; omega
    · go_wp2
      go_ret
      exact ⟨rfl, hx⟩

set_option maxRecDepth 100000 in
set_option maxHeartbeats 8000000 in
theorem apart_any (A : Option Addr) (n cap : Nat) (l : List En) (w : World) (hv : EnS w A l) (hn : l.length = n) (hb : n ≤ 10000) :
    Calls Try.prog 6 #[.slice A n cap] w (RetE w (apOf l)) := by
  replace hn := Lib.hid hn
  replace hv := Lib.hid hv
  go_enter Try.func6, Try.ntmps6
  go_wp2
  go_loopw [3, 4] (fun v i W => ∃ (j : Nat), j ≤ n ∧ i = Vi j ∧ Hid (OwnE w W v (apOf (l.take j))) ∧ Ext w W) (fun _ i _ => n - (intOf i).toNat)
  case atStart => exact ⟨0, Nat.zero_le _, rfl, Lib.hid (OwnE.nil _ _), Ext.refl _⟩
  case round =>
    obtain ⟨j, hj, rfl, ho, hx⟩ := hrel
    by_cases hlt : j < n
    · obtain ⟨b, oo, x, rfl, hp, d⟩ := hv.out.at (k := j) (by rw [hn.out]; exact hlt)
      have hst := Lib.hid (ap_take hp)
      have hol : (apOf (l.take j)).length ≤ j := by have := ap_le (l.take j); rw [List.length_take] at this; omega
      generalize apOf (l.take j) = o at *
      obtain ⟨Ao, co, rfl, hco, hEo⟩ := OwnE.open ho.out
      have hi1 : (0 : Int) ≤ (j : Int) := by omega
      have hi2 : (j : Int) < (n : Int) := by omega
      have hdx := Lib.hid (d.ext hx)
      replace hEo := Lib.hid hEo
      obtain ⟨m, hm⟩ : ∃ m, o.length = m := ⟨_, rfl⟩
      rw [hm] at hco ho hol ⊢
      replace hm := Lib.hid hm
      clear hp d
      go_wp2
      go_loopw [5, 6] (fun h i W => ∃ (q : Nat), q ≤ m ∧ i = Vi q ∧ h = .bool (hasE (o.take q) x.c x.k) ∧ Ext wr W) (fun _ i _ => m - (intOf i).toNat)
      case atStart => exact ⟨0, Nat.zero_le _, rfl, by simp [hasE], Ext.refl _⟩
      case round =>
        obtain ⟨q, hq, rfl, rfl, hx2⟩ := hrel
        have hX2 := hx.trans hx2
        obtain ⟨c0, c1, c2, c3⟩ := hdx.out.ext hx2
        by_cases hlt2 : q < m
        · obtain ⟨b', o', y, rfl, hp', d'⟩ := (hEo.out.ext hx2).at (k := q) (by rw [hm.out]; exact hlt2)
          obtain ⟨e0, e1, e2, e3⟩ := d'
          have hi3 : (0 : Int) ≤ (q : Int) := by omega
          have hi4 : (q : Int) < (m : Int) := by omega
          have hst2 := has_take (c := x.c) (k := x.k) hp'
          cases hh : hasE (o.take q) x.c x.k with
          | true =>
            rw [hh, Bool.true_or] at hst2
            replace hst2 := Lib.hid hst2
            clear hh hp'
            go_wp2
            go_quiet (fail)
            go_wp2
            go_roundw
            case rel => exact ⟨q + 1, by omega, by go_num, by rw [hst2.out], hx2.drewN _⟩
            case measure => simp [intOf]; omega
          | false =>
            rw [hh, Bool.false_or] at hst2
            obtain ⟨se, hse⟩ : ∃ se, sameE y x.c x.k = se := ⟨_, rfl⟩
            have hcmp : ∀ W : World, (binOp .eql 36 (.agg #[.int .u32 y.c, .int .u32 y.k]) (.agg #[.int .u32 x.c, .int .u32 x.k])).run Try.prog W = .ok (.bool se) W := fun W => by rw [idE_eql _ _ _ _ Try.prog, ← hse]; rfl
            rw [hse] at hst2
            replace hst2 := Lib.hid hst2
            clear hh hp' hse
            go_wp2
            go_quiet (fail)
            go_wp2
            go_roundw
            case rel => exact ⟨q + 1, by omega, by go_num, by rw [hst2.out], hx2.drewN _⟩
            case measure => simp [intOf]; omega
        · have hfull : o.take q = o := List.take_of_length_le (by rw [hm.out]; omega)
          rw [hfull] at *
          have hst3 := hst.out
          unfold apStep at hst3
          cases hh : hasE o x.c x.k with
          | true =>
            rw [hh, if_pos rfl] at hst3
            have hoe := Lib.hid (ho.out.ext hx2)
            replace hst3 := Lib.hid hst3
            clear hh hst ho hfull
            go_wp2
            go_roundw
            case rel => exact ⟨j + 1, by omega, by go_num, Lib.hid (by rw [hst3.out]; exact hoe.out), hX2⟩
            case measure => simp [intOf]; omega
          | false =>
            rw [hh, if_neg (by simp)] at hst3
            have hoe := Lib.hid (ho.out.ext hx2)
            replace hst3 := Lib.hid hst3
            clear hh hst ho hfull
            go_wp2_with (at_builtin; go_loud (refine wpList_append_E (w0 := w) rfl (.tmp 35) (.tmp 40) rfl _ o rfl (hoe.out.ext ((Ext.refl _).alloc _)) (hX2.alloc _) _ 1 1 [x] rfl rfl (EnS.new _ x) (by simp only [List.length_cons, List.length_nil]; have := hm.out; omega) ?_; intro v3 w3 o3 x3 _ _))
            go_roundw
            case rel => exact ⟨j + 1, by omega, by go_num, Lib.hid (by rw [hst3.out]; exact o3), x3⟩
            case measure => simp [intOf]; omega
    · have hfull := Lib.hid (show l.take j = l from List.take_of_length_le (by rw [hn.out]; omega))
      rw [hfull.out] at ho
      go_wp2
      go_ret
      exact ⟨_, rfl, ho.out, hx⟩

end Go.Proofs.Ytanknhalgoheeaa
