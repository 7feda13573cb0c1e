/-
  Contracts of slices.Clone, Grow (of nil), Concat, at entries; no claim stands here.
-/
import Derived.Test.YtanknhalgoheeaaYMem
import Derived.Test.YtanknhalgoheeaaLayGr
namespace Go.Proofs.Ytanknhalgoheeaa
open Go.ChangeShapes Go.WideShapes Go.ChangeAt Go.RowKit Go.Sort
set_option linter.unusedVariables false
attribute [local go_sem] World.cell?_alloc_some

set_option maxRecDepth 100000 in
set_option maxHeartbeats 4000000 in
theorem clone_any (A : Option Addr) (n cap : Nat) (l : List En) (w : World) (hv : EnS w A l) (hn : l.length = n) (hb : n ≤ 100000) :
    Calls Try.prog 29 #[.slice A n cap] w fun e w' => ∃ v, e = .returned v ∧ OwnE w w' v l ∧ Ext w w' := by
  have hq : ∀ (W : World) (a : Option Addr) (n c n' c' : Nat), (binOp .eql 22 (.slice a n c) (.slice none n' c')).run Try.prog W = .ok (.bool a.isNone) W := fun W a n c n' c' => Lib.run_eql_slice_nil W _ _ a n c n' c' Try.underlying22
  cases A with
  | none =>
    have h0 : l = [] := by
      cases l with
      | nil => rfl
      | cons x l => obtain ⟨b, o, x', e, _⟩ := hv.at (k := 0) (by simp); cases e
    subst h0
    go_enter Try.func29, Try.ntmps29
    go_wp2
    go_ret
    exact ⟨_, rfl, OwnE.nil _ _, Ext.refl _⟩
  | some a =>
    have hv1 := hv.ext ((Ext.refl w).alloc (.cells #[] 38))
    have ho := OwnE.empty (Ext.refl w)
    have hx := (Ext.refl w).alloc (.cells #[] 38)
    go_enter Try.func29, Try.ntmps29
    go_wp2_with (at_builtin; refine wpList_append_E (w0 := w) rfl (.tmp 5) (.tmp 6) rfl _ [] rfl ho hx (some a) n cap l rfl hn hv1 (by simp only [List.length_nil]; omega) ?_)
    intro v3 w3 o3 x3 _ _
    go_wp2
    go_ret
    exact ⟨v3, rfl, o3, x3⟩

theorem grow_any (n : Nat) (w : World) (hb : n ≤ 100000) :
    Calls Try.prog 38 #[.slice none 0 0, Vi (n : Int)] w fun e w' => ∃ v, e = .returned v ∧ OwnE w w' v [] ∧ Ext w w' := by
  rcases Nat.eq_zero_or_pos n with h0 | h0
  · subst h0
    refine (Any8.slices_Grow_room Try.growE none 0 0 0 w (Nat.le_refl _) (by omega) (by omega) (Nat.le_refl _)).mono ?_
    rintro e w' ⟨rfl, rfl⟩
    exact ⟨_, rfl, OwnE.nil _ _, Ext.refl _⟩
  · obtain ⟨i, hi, hz0, hz1, hz2⟩ := info_parts infoE
    refine (Any8.slices_Grow_grow Try.growE i _ hi hz0 (by omega) none 0 0 n [] w (Nat.le_refl _) (by omega) (by rw [hz2]; omega) (by omega) (by simp) (fun _ => rfl) (fun a e => by cases e)).mono ?_
    rintro e w' ⟨rfl, rfl⟩
    refine ⟨_, rfl, ⟨by simp [flat], .inr ⟨w.heap.size, _, _, rfl, Nat.le_refl _, heap_alloc_new (w.drew) _, Nat.zero_le _, grownCap_le_maxLen _ _ _ _ (by unfold maxLen; omega), ?_, by simp [flat]⟩⟩, ((Ext.refl w).drew).alloc _⟩
    have hge := grownCap_ge w (0 + n) 0 (Try.growE_ren.t 25)
    simp only [Array.size_append, size_zeroCells, List.size_toArray, List.length_nil]
    have e4 : (Value.agg #[Value.int IntKind.u32 0, Value.int IntKind.u32 0, Value.int IntKind.i32 0, Value.bool false]).cells.size = 4 := rfl
    rw [e4]
    omega

/-- a slice of entries that lies somewhere -/
structure SlE where
  A : Option Addr
  c : Nat
  l : List En
def sumL (ls : List SlE) : Nat := (ls.map fun x => x.l.length).sum
def catL (ls : List SlE) : List En := ls.flatMap fun x => x.l
theorem cat_len : ∀ ls : List SlE, (catL ls).length = sumL ls
  | [] => rfl
  | x :: ls => by
    have := cat_len ls
    unfold catL sumL at *
    simp [this]
theorem sum_take {ls : List SlE} {j : Nat} {x : SlE} (h : ls[j]? = some x) : sumL (ls.take (j + 1)) = sumL (ls.take j) + x.l.length := by
  rw [List.take_add_one, h]
  simp [sumL]
theorem cat_take {ls : List SlE} {j : Nat} {x : SlE} (h : ls[j]? = some x) : catL (ls.take (j + 1)) = catL (ls.take j) ++ x.l := by
  rw [List.take_add_one, h]
  simp [catL]
theorem sum_le : ∀ (ls : List SlE) (j : Nat), sumL (ls.take j) ≤ sumL ls
  | [], j => by simp [sumL]
  | x :: ls, 0 => by simp [sumL]
  | x :: ls, j + 1 => by
    have h := sum_le ls j
    have e1 : sumL ((x :: ls).take (j + 1)) = x.l.length + sumL (ls.take j) := by simp [sumL]
    have e2 : sumL (x :: ls) = x.l.length + sumL ls := by simp [sumL]
    omega

set_option maxRecDepth 100000 in
set_option maxHeartbeats 8000000 in
theorem concat_any (b n cap : Nat) (ls : List SlE) (w : World) (hc : ∀ (j : Nat) (x : SlE), ls[j]? = some x → w.cell? ⟨b, j, none⟩ = some (.slice x.A x.l.length x.c) ∧ EnS w x.A x.l) (hn : ls.length = n) (hn2 : n ≤ 1000) (hb : sumL ls ≤ 100000) :
    Calls Try.prog 33 #[.slice (some ⟨b, 0, none⟩) n cap] w fun e w' => ∃ v, e = .returned v ∧ OwnE w w' v (catL ls) ∧ Ext w w' := by
  have hgr := Lib.hid (fun W => grow_any (sumL ls) W hb)
  replace hc := Lib.hid hc
  replace hn := Lib.hid hn
  go_enter Try.func33, Try.ntmps33
  go_wp2
  go_loopw [3, 11] (fun s i W => ∃ (j : Nat), j ≤ n ∧ i = Vi j ∧ s = Vi (sumL (ls.take j)) ∧ w = W) (fun _ i _ => n - (intOf i).toNat)
  case atStart => exact ⟨0, Nat.zero_le _, rfl, rfl, rfl⟩
  case round =>
    obtain ⟨j, hj, rfl, rfl, rfl⟩ := hrel
    have hsj := sum_le ls j
    by_cases hlt : j < n
    · obtain ⟨x, hx⟩ : ∃ x, ls[j]? = some x := ⟨ls[j]'(by rw [hn.out]; exact hlt), List.getElem?_eq_getElem _⟩
      obtain ⟨c0, _⟩ := hc.out j x hx
      have hs := sum_take hx
      have hs2 := sum_le ls (j + 1)
      have hi1 : (0 : Int) ≤ (j : Int) := by omega
      have hi2 : (j : Int) < (n : Int) := by omega
      have hr := Lib.hid hs
      rw [hs] at hs2
      clear hs hx
      generalize sumL (ls.take j) = sj at *
      generalize x.l.length = xl at *
      go_wp2
      go_roundw
      case rel => exact ⟨j + 1, by omega, by go_num, by rw [hr.out]; go_num, trivial⟩
      case measure => simp [intOf]; omega
    · obtain rfl : j = n := by omega
      have e : sumL (ls.take j) = sumL ls := by rw [List.take_of_length_le (by rw [hn.out]; omega)]
      rw [e]
      go_wp2_with fail
      refine (hgr.out _).mono ?_
      rintro e w1 ⟨v1, rfl, o1, x1⟩
      go_wp2
      go_loopw [6, 27] (fun v i W => ∃ (k : Nat), k ≤ j ∧ i = Vi k ∧ OwnE w W v (catL (ls.take k)) ∧ Ext w W) (fun _ i _ => j - (intOf i).toNat)
      case atStart => exact ⟨0, Nat.zero_le _, rfl, o1, x1⟩
      case round =>
        clear o1 x1
        obtain ⟨k, hk, rfl, ho, hX⟩ := hrel
        by_cases hlt2 : k < j
        · obtain ⟨x, hx⟩ : ∃ x, ls[k]? = some x := ⟨ls[k]'(by rw [hn.out]; exact hlt2), List.getElem?_eq_getElem _⟩
          obtain ⟨c0, hE⟩ := hc.out k x hx
          have c1 := hX.keep c0
          have hE1 := hE.ext hX
          have hs := sum_take hx
          have hs2 := sum_le ls (k + 1)
          have hcl := cat_len (ls.take k)
          have hi1 : (0 : Int) ≤ (k : Int) := by omega
          have hi2 : (k : Int) < (j : Int) := by omega
          have hr := Lib.hid (cat_take hx)
          have hbb : (catL (ls.take k)).length + x.l.length ≤ 100000 := by omega
          clear hs hs2 hcl hx c0 hE
          go_wp2_with (at_builtin; refine wpList_append_E (w0 := w) rfl (.tmp 31) (.tmp 32) rfl _ _ rfl ho hX x.A x.l.length x.c x.l rfl rfl hE1 hbb ?_; intro v3 w3 o3 x3 _ _)
          go_roundw
          case rel => exact ⟨k + 1, by omega, by go_num, by rw [hr.out]; exact o3, x3⟩
          case measure => simp [intOf]; omega
        · obtain rfl : k = j := by omega
          have e2 : catL (ls.take k) = catL ls := by rw [List.take_of_length_le (by rw [hn.out]; omega)]
          rw [e2] at ho
          go_wp2
          go_ret
          exact ⟨_, rfl, ho, hX⟩

end Go.Proofs.Ytanknhalgoheeaa
