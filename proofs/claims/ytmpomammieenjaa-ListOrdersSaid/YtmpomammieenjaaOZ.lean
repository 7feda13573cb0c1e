/-
  Several texts of this seat in one file, each in the namespace again; no claim stands here.
-/
import Derived.Test.YtmpomammieenjaaOS
import Derived.Test.YtmpomammieenjaaLayGr
import Derived.Test.YtmpomammieenjaaOU
import Derived.Test.YtmpomammieenjaaOV
import Derived.Test.YtmpomammieenjaaOW
import Derived.Test.YtmpomammieenjaaYChkO
namespace Go.Proofs.Ytmpomammieenjaa
open Go.ChangeShapes Go.WideShapes Go.ChangeAt Go.RowKit Go.Sort
set_option linter.unusedVariables false
set_option linter.unusedSimpArgs false
attribute [local go_sem] World.cell?_alloc_some

set_option maxRecDepth 100000 in
set_option maxHeartbeats 4000000 in
theorem clone_any (A : Option Addr) (n cap : Nat) (l : List En) (w : World) (hv : EnS w A l) (hn : l.length = n) (hb : n ≤ 100000) :
    Calls Try.prog 71 #[.slice A n cap] w fun e w' => ∃ v, e = .returned v ∧ OwnE w w' v l ∧ Ext w w' := by
  have hq : ∀ (W : World) (a : Option Addr) (n c n' c' : Nat), (binOp .eql 24 (.slice a n c) (.slice none n' c')).run Try.prog W = .ok (.bool a.isNone) W := fun W a n c n' c' => Lib.run_eql_slice_nil W _ _ a n c n' c' Try.underlying24
  cases A with
  | none =>
    have h0 : l = [] := by
      cases l with
      | nil => rfl
      | cons x l => obtain ⟨b, o, x', e, _⟩ := hv.at (k := 0) (by simp); cases e
    subst h0
    go_enter Try.func71, Try.ntmps71
    go_wp2
    go_ret
    exact ⟨_, rfl, OwnE.nil _ _, Ext.refl _⟩
  | some a =>
    have hv1 := hv.ext ((Ext.refl w).alloc (.cells #[] 79))
    have ho := OwnE.empty (Ext.refl w)
    have hx := (Ext.refl w).alloc (.cells #[] 79)
    go_enter Try.func71, Try.ntmps71
    go_wp2_with (at_builtin; refine wpList_append_E (w0 := w) rfl (.tmp 5) (.tmp 6) rfl _ [] rfl ho hx (some a) n cap l rfl hn hv1 (by simp only [List.length_nil]; omega) ?_)
    intro v3 w3 o3 x3 _ _
    go_wp2
    go_ret
    exact ⟨v3, rfl, o3, x3⟩

theorem growS_any (n : Nat) (w : World) (hb : n ≤ 100000) :
    Calls Try.prog 101 #[.slice none 0 0, Vi (n : Int)] w fun e w' => ∃ v, e = .returned v ∧ OwnE w w' v [] ∧ Ext w w' := by
  rcases Nat.eq_zero_or_pos n with h0 | h0
  · subst h0
    refine (Any8.slices_Grow_room Try.growE none 0 0 0 w (Nat.le_refl _) (by omega) (by omega) (Nat.le_refl _)).mono ?_
    rintro e w' ⟨rfl, rfl⟩
    exact ⟨_, rfl, OwnE.nil _ _, Ext.refl _⟩
  · obtain ⟨i, hi, hz0, hz1, hz2⟩ := info_parts infoE
    refine (Any8.slices_Grow_grow Try.growE i _ hi hz0 (by omega) none 0 0 n [] w (Nat.le_refl _) (by omega) (by rw [hz2]; omega) (by omega) (by simp) (fun _ => rfl) (fun a e => by cases e)).mono ?_
    rintro e w' ⟨rfl, rfl⟩
    refine ⟨_, rfl, ⟨by simp [flat], .inr ⟨w.heap.size, _, _, rfl, Nat.le_refl _, heap_alloc_new (w.drew) _, Nat.zero_le _, grownCap_le_maxLen _ _ _ _ (by unfold maxLen; omega), ?_, by simp [flat]⟩⟩, ((Ext.refl w).drew).alloc _⟩
    have hge := grownCap_ge w (0 + n) 0 (Try.growE_ren.t 25)
    simp only [Array.size_append, size_zeroCells, List.size_toArray, List.length_nil]
    have e4 : (Value.agg #[Value.int IntKind.u32 0, Value.int IntKind.u32 0, Value.int IntKind.i32 0, Value.bool false]).cells.size = 4 := rfl
    rw [e4]
    omega

structure SlE where
  A : Option Addr
  c : Nat
  l : List En
def sumL (ls : List SlE) : Nat := (ls.map fun x => x.l.length).sum
def catL (ls : List SlE) : List En := ls.flatMap fun x => x.l
theorem cat_len : ∀ ls : List SlE, (catL ls).length = sumL ls
  | [] => rfl
  | x :: ls => by
    have := cat_len ls
    unfold catL sumL at *
    simp [this]
theorem sum_take {ls : List SlE} {j : Nat} {x : SlE} (h : ls[j]? = some x) : sumL (ls.take (j + 1)) = sumL (ls.take j) + x.l.length := by
  rw [List.take_add_one, h]
  simp [sumL]
theorem cat_take {ls : List SlE} {j : Nat} {x : SlE} (h : ls[j]? = some x) : catL (ls.take (j + 1)) = catL (ls.take j) ++ x.l := by
  rw [List.take_add_one, h]
  simp [catL]
theorem sum_le : ∀ (ls : List SlE) (j : Nat), sumL (ls.take j) ≤ sumL ls
  | [], j => by simp [sumL]
  | x :: ls, 0 => by simp [sumL]
  | x :: ls, j + 1 => by
    have h := sum_le ls j
    have e1 : sumL ((x :: ls).take (j + 1)) = x.l.length + sumL (ls.take j) := by simp [sumL]
    have e2 : sumL (x :: ls) = x.l.length + sumL ls := by simp [sumL]
    omega

set_option maxRecDepth 100000 in
set_option maxHeartbeats 8000000 in
theorem concat_any (b n cap : Nat) (ls : List SlE) (w : World) (hc : ∀ (j : Nat) (x : SlE), ls[j]? = some x → w.cell? ⟨b, j, none⟩ = some (.slice x.A x.l.length x.c) ∧ EnS w x.A x.l) (hn : ls.length = n) (hn2 : n ≤ 1000) (hb : sumL ls ≤ 100000) :
    Calls Try.prog 81 #[.slice (some ⟨b, 0, none⟩) n cap] w fun e w' => ∃ v, e = .returned v ∧ OwnE w w' v (catL ls) ∧ Ext w w' := by
  have hgr := Lib.hid (fun W => growS_any (sumL ls) W hb)
  replace hc := Lib.hid hc
  replace hn := Lib.hid hn
  go_enter Try.func81, Try.ntmps81
  go_wp2
  go_loopw [3, 11] (fun s i W => ∃ (j : Nat), j ≤ n ∧ i = Vi j ∧ s = Vi (sumL (ls.take j)) ∧ w = W) (fun _ i _ => n - (intOf i).toNat)
  case atStart => exact ⟨0, Nat.zero_le _, rfl, rfl, rfl⟩
  case round =>
    obtain ⟨j, hj, rfl, rfl, rfl⟩ := hrel
    have hsj := sum_le ls j
    by_cases hlt : j < n
    · obtain ⟨x, hx⟩ : ∃ x, ls[j]? = some x := ⟨ls[j]'(by rw [hn.out]; exact hlt), List.getElem?_eq_getElem _⟩
      obtain ⟨c0, _⟩ := hc.out j x hx
      have hs := sum_take hx
      have hs2 := sum_le ls (j + 1)
      have hi1 : (0 : Int) ≤ (j : Int) := by omega
      have hi2 : (j : Int) < (n : Int) := by omega
      have hr := Lib.hid hs
      rw [hs] at hs2
      clear hs hx
      generalize sumL (ls.take j) = sj at *
      generalize x.l.length = xl at *
      go_wp2
      go_roundw
      case rel => exact ⟨j + 1, by omega, by go_num, by rw [hr.out]; go_num, trivial⟩
      case measure => simp [intOf]; omega
    · obtain rfl : j = n := by omega
      have e : sumL (ls.take j) = sumL ls := by rw [List.take_of_length_le (by rw [hn.out]; omega)]
      rw [e]
      go_wp2_with fail
      refine (hgr.out _).mono ?_
      rintro e w1 ⟨v1, rfl, o1, x1⟩
      go_wp2
      go_loopw [6, 27] (fun v i W => ∃ (k : Nat), k ≤ j ∧ i = Vi k ∧ OwnE w W v (catL (ls.take k)) ∧ Ext w W) (fun _ i _ => j - (intOf i).toNat)
      case atStart => exact ⟨0, Nat.zero_le _, rfl, o1, x1⟩
      case round =>
        clear o1 x1
        obtain ⟨k, hk, rfl, ho, hX⟩ := hrel
        by_cases hlt2 : k < j
        · obtain ⟨x, hx⟩ : ∃ x, ls[k]? = some x := ⟨ls[k]'(by rw [hn.out]; exact hlt2), List.getElem?_eq_getElem _⟩
          obtain ⟨c0, hE⟩ := hc.out k x hx
          have c1 := hX.keep c0
          have hE1 := hE.ext hX
          have hs := sum_take hx
          have hs2 := sum_le ls (k + 1)
          have hcl := cat_len (ls.take k)
          have hi1 : (0 : Int) ≤ (k : Int) := by omega
          have hi2 : (k : Int) < (j : Int) := by omega
          have hr := Lib.hid (cat_take hx)
          have hbb : (catL (ls.take k)).length + x.l.length ≤ 100000 := by omega
          clear hs hs2 hcl hx c0 hE
          go_wp2_with (at_builtin; refine wpList_append_E (w0 := w) rfl (.tmp 31) (.tmp 32) rfl _ _ rfl ho hX x.A x.l.length x.c x.l rfl rfl hE1 hbb ?_; intro v3 w3 o3 x3 _ _)
          go_roundw
          case rel => exact ⟨k + 1, by omega, by go_num, by rw [hr.out]; exact o3, x3⟩
          case measure => simp [intOf]; omega
        · obtain rfl : k = j := by omega
          have e2 : catL (ls.take k) = catL ls := by rw [List.take_of_length_le (by rw [hn.out]; omega)]
          rw [e2] at ho
          go_wp2
          go_ret
          exact ⟨_, rfl, ho, hX⟩

end Go.Proofs.Ytmpomammieenjaa

namespace Go.Proofs.Ytmpomammieenjaa
open Go.ChangeShapes Go.WideShapes Go.ChangeAt Go.RowKit Go.Sort
set_option linter.unusedVariables false
set_option linter.unusedSimpArgs false

theorem flat_set3 : ∀ (l : List En) (q : Nat) (x : En), l[q]? = some x → flat encE (l.set q { x with g := true }) = (flat encE l).set (q * 4 + 3) (.bool true)
  | [], q, x, h => by simp at h
  | y :: l, 0, x, h => by
    have e : y = x := by simpa using h
    subst e
    rw [List.set_cons_zero, flat_cons, flat_cons, List.set_append_left _ _ (by rw [encE_len]; omega)]
    rfl
  | y :: l, q + 1, x, h => by
    rw [List.set_cons_succ, flat_cons, flat_cons, List.set_append_right _ _ (by rw [encE_len]; omega), encE_len, show (q + 1) * 4 + 3 - 4 = q * 4 + 3 by omega]
    rw [flat_set3 l q x (by simpa using h)]
theorem OwnE.hide {w W : World} {g n c : Nat} {l : List En} {q : Nat} {x : En} (h : OwnE w W (.slice (some ⟨g, 0, none⟩) n c) l) (hx : l[q]? = some x) :
    OwnE w (W.setCell ⟨g, q * 4 + 3, none⟩ (.bool true)) (.slice (some ⟨g, 0, none⟩) n c) (l.set q { x with g := true }) ∧ W.grownBy (W.setCell ⟨g, q * 4 + 3, none⟩ (.bool true)) (some g) ∧ W.frozen? ⟨g, q * 4 + 3, none⟩ = false := by
  unfold OwnE OwnG at h
  have hl : n = l.length := by
    obtain ⟨A, cc, e, _⟩ := OwnG.form h
    injection e
  subst hl
  have h1 := World.ownsRow.stored h (q * 4 + 3) (.bool true)
  refine ⟨?_, h1.2, World.ownsRow.frozenAt h _⟩
  unfold OwnE OwnG
  rw [flat_set3 l q x hx, List.length_set]
  exact h1.1
theorem OwnE.block {w W : World} {v : Value} {l : List En} (h : OwnE w W v l) (h0 : 0 < l.length) : ∃ g c, v = .slice (some ⟨g, 0, none⟩) l.length c ∧ w.heap.size ≤ g ∧ g < W.heap.size := by
  obtain ⟨g, cap, hv, _, hlt⟩ := World.ownsRow.form h h0
  subst hv
  have := World.ownsRow.lt h g rfl
  exact ⟨g, cap, rfl, this.1, this.2⟩
def BoxE (W : World) (q : Nat) (x : En) : Prop := W.heap[q]? = some (.cells #[.int .u32 x.c, .int .u32 x.k, .int .i32 x.ch, .bool x.g] 79 (0, 0))
theorem BoxE.row {W : World} {q : Nat} {x : En} (h : BoxE W q x) : EnS W (some ⟨q, 0, none⟩) [x] := fun _ => ⟨q, 0, rfl, fun j u hu => by rw [Nat.zero_add, cell_of_row W q j _ _ _ h]; rw [flat_one] at hu; simpa [encE] using hu⟩

end Go.Proofs.Ytmpomammieenjaa

namespace Go.Proofs.Ytmpomammieenjaa
open Go.ChangeShapes Go.WideShapes Go.ChangeAt Go.RowKit Go.Sort
set_option linter.unusedVariables false
set_option linter.unusedSimpArgs false
attribute [local go_sem] World.cell?_alloc_some

def ypTab (G : Nat → Prop) (A : Option Addr) (n cap h : Nat) (l : List En) : SoftTab := [(13, fun z9 W => z9 = .slice A n cap),
  (14, fun z9 W => z9 = Vi (h : Int)),
  (15, fun z9 W => z9 = .slice A h cap),
  (16, fun z9 W => NewP G W z9 (partTr (l.take h))),
  (17, fun z9 W => z9 = .slice A n cap),
  (18, fun z9 W => z9 = Vi (h : Int)),
  (19, fun z9 W => z9 = .slice (cutA A cap h 4) (n - h) (cap - h)),
  (20, fun z9 W => NewP G W z9 (partTr (l.drop h)))]
theorem ypTab_mono (G : Nat → Prop) (A : Option Addr) (n cap h : Nat) (l : List En) (Rel : World → World → Prop) (hR : ∀ W W', Rel W W' → Ext W W') : SoftMonoR Rel (ypTab G A n cap h l) := by
  intro p hp v W W' h hx
  simp only [ypTab, List.mem_cons, List.not_mem_nil, or_false] at hp
  rcases hp with rfl | rfl | rfl | rfl | rfl | rfl | rfl | rfl
  all_goals first
    | exact h
    | exact NewP.ext h (hR _ _ hx)

def yu2Tab (A : Option Addr) (n cap b eb p : Nat) (x : En) : SoftTab := [(9, fun z9 W => z9 = .pointer (some ⟨b, 0, none⟩)),
  (10, fun z9 W => z9 = .pointer (some ⟨b, 0, none⟩)),
  (11, fun z9 W => z9 = .pointer (some ⟨b, 0, none⟩)),
  (12, fun z9 W => z9 = .slice A n cap),
  (13, fun z9 W => z9 = Vi (p : Int)),
  (14, fun z9 W => z9 = .slice A p cap),
  (15, fun z9 W => z9 = env x),
  (16, fun z9 W => ∃ q, z9 = .slice (some ⟨q, 0, none⟩) 1 1 ∧ BoxE W q x),
  (17, fun z9 W => z9 = .pointer (some ⟨b, 0, none⟩)),
  (18, fun z9 W => z9 = .pointer (some ⟨b, 0, none⟩)),
  (19, fun z9 W => z9 = .pointer (some ⟨b, 0, none⟩)),
  (20, fun z9 W => z9 = .slice A n cap),
  (21, fun z9 W => z9 = Vi (p : Int)),
  (22, fun z9 W => z9 = .slice (cutA A cap p 4) (n - p) (cap - p))]
theorem yu2Tab_mono (A : Option Addr) (n cap b eb p : Nat) (x : En) (Rel : World → World → Prop) (hR : ∀ W W', Rel W W' → Ext W W') : SoftMonoR Rel (yu2Tab A n cap b eb p x) := by
  intro p hp v W W' h hx
  simp only [yu2Tab, List.mem_cons, List.not_mem_nil, or_false] at hp
  rcases hp with rfl | rfl | rfl | rfl | rfl | rfl | rfl | rfl | rfl | rfl | rfl | rfl | rfl | rfl
  all_goals first
    | exact h
    | (obtain ⟨q, h1, h2⟩ := h
       exact ⟨q, h1, by unfold BoxE at h2 ⊢; rw [RowKit.Below.block (hR _ _ hx) q (Array.getElem?_eq_some_iff.1 h2).1]; exact h2⟩)

def yu4Tab (G : Nat → Prop) (b lp rp eb p : Nat) (ta : Tr) (x : En) : SoftTab := [(35, fun z9 W => z9 = .pointer (some ⟨b, 0, none⟩)),
  (36, fun z9 W => z9 = .pointer (some ⟨b, 0, none⟩)),
  (37, fun z9 W => z9 = .pointer (some ⟨b, 1, none⟩)),
  (38, fun z9 W => z9 = .pointer (some ⟨lp, 0, none⟩)),
  (39, fun z9 W => z9 = Vi (p : Int)),
  (40, fun z9 W => z9 = env x),
  (41, fun z9 W => NewP G W z9 (putTr ta p x)),
  (42, fun z9 W => z9 = .pointer (some ⟨b, 0, none⟩)),
  (43, fun z9 W => z9 = .pointer (some ⟨b, 0, none⟩)),
  (44, fun z9 W => z9 = .pointer (some ⟨b, 2, none⟩)),
  (45, fun z9 W => z9 = .pointer (some ⟨rp, 0, none⟩))]
theorem yu4Tab_mono (G : Nat → Prop) (b lp rp eb p : Nat) (ta : Tr) (x : En) (Rel : World → World → Prop) (hR : ∀ W W', Rel W W' → Ext W W') : SoftMonoR Rel (yu4Tab G b lp rp eb p ta x) := by
  intro p hp v W W' h hx
  simp only [yu4Tab, List.mem_cons, List.not_mem_nil, or_false] at hp
  rcases hp with rfl | rfl | rfl | rfl | rfl | rfl | rfl | rfl | rfl | rfl | rfl
  all_goals first
    | exact h
    | exact NewP.ext h (hR _ _ hx)

def yu5Tab (G : Nat → Prop) (b lp rp eb p na m : Nat) (tb : Tr) (x : En) : SoftTab := [(47, fun z9 W => z9 = .pointer (some ⟨b, 0, none⟩)),
  (48, fun z9 W => z9 = .pointer (some ⟨b, 0, none⟩)),
  (49, fun z9 W => z9 = .pointer (some ⟨b, 1, none⟩)),
  (50, fun z9 W => z9 = .pointer (some ⟨lp, 0, none⟩)),
  (51, fun z9 W => z9 = .pointer (some ⟨b, 0, none⟩)),
  (52, fun z9 W => z9 = .pointer (some ⟨b, 0, none⟩)),
  (53, fun z9 W => z9 = .pointer (some ⟨b, 2, none⟩)),
  (54, fun z9 W => z9 = .pointer (some ⟨rp, 0, none⟩)),
  (55, fun z9 W => z9 = Vi (p : Int)),
  (56, fun z9 W => z9 = .pointer (some ⟨b, 0, none⟩)),
  (57, fun z9 W => z9 = .pointer (some ⟨b, 0, none⟩)),
  (58, fun z9 W => z9 = .pointer (some ⟨b, 1, none⟩)),
  (59, fun z9 W => z9 = .pointer (some ⟨lp, 0, none⟩)),
  (60, fun z9 W => z9 = .pointer (some ⟨lp, 0, none⟩)),
  (61, fun z9 W => z9 = .pointer (some ⟨lp, 4, none⟩)),
  (62, fun z9 W => z9 = Vi (na : Int)),
  (63, fun z9 W => z9 = Vi (m : Int)),
  (64, fun z9 W => z9 = env x),
  (65, fun z9 W => NewP G W z9 (putTr tb m x))]
theorem yu5Tab_mono (G : Nat → Prop) (b lp rp eb p na m : Nat) (tb : Tr) (x : En) (Rel : World → World → Prop) (hR : ∀ W W', Rel W W' → Ext W W') : SoftMonoR Rel (yu5Tab G b lp rp eb p na m tb x) := by
  intro p hp v W W' h hx
  simp only [yu5Tab, List.mem_cons, List.not_mem_nil, or_false] at hp
  rcases hp with rfl | rfl | rfl | rfl | rfl | rfl | rfl | rfl | rfl | rfl | rfl | rfl | rfl | rfl | rfl | rfl | rfl | rfl | rfl
  all_goals first
    | exact h
    | exact NewP.ext h (hR _ _ hx)

def yh6Tab (G : Nat → Prop) (b lp rp p : Nat) (ta : Tr) : SoftTab := [(28, fun z9 W => z9 = .pointer (some ⟨b, 0, none⟩)),
  (29, fun z9 W => z9 = .pointer (some ⟨b, 0, none⟩)),
  (30, fun z9 W => z9 = .pointer (some ⟨b, 1, none⟩)),
  (31, fun z9 W => z9 = .pointer (some ⟨lp, 0, none⟩)),
  (32, fun z9 W => z9 = Vi (p : Int)),
  (33, fun z9 W => NewP G W z9 (hideTr ta p)),
  (34, fun z9 W => z9 = .pointer (some ⟨b, 0, none⟩)),
  (35, fun z9 W => z9 = .pointer (some ⟨b, 0, none⟩)),
  (36, fun z9 W => z9 = .pointer (some ⟨b, 2, none⟩)),
  (37, fun z9 W => z9 = .pointer (some ⟨rp, 0, none⟩))]
theorem yh6Tab_mono (G : Nat → Prop) (b lp rp p : Nat) (ta : Tr) (Rel : World → World → Prop) (hR : ∀ W W', Rel W W' → Ext W W') : SoftMonoR Rel (yh6Tab G b lp rp p ta) := by
  intro p hp v W W' h hx
  simp only [yh6Tab, List.mem_cons, List.not_mem_nil, or_false] at hp
  rcases hp with rfl | rfl | rfl | rfl | rfl | rfl | rfl | rfl | rfl | rfl
  all_goals first
    | exact h
    | exact NewP.ext h (hR _ _ hx)

def yh7Tab (G : Nat → Prop) (b lp rp p na m : Nat) (tb : Tr) : SoftTab := [(39, fun z9 W => z9 = .pointer (some ⟨b, 0, none⟩)),
  (40, fun z9 W => z9 = .pointer (some ⟨b, 0, none⟩)),
  (41, fun z9 W => z9 = .pointer (some ⟨b, 1, none⟩)),
  (42, fun z9 W => z9 = .pointer (some ⟨lp, 0, none⟩)),
  (43, fun z9 W => z9 = .pointer (some ⟨b, 0, none⟩)),
  (44, fun z9 W => z9 = .pointer (some ⟨b, 0, none⟩)),
  (45, fun z9 W => z9 = .pointer (some ⟨b, 2, none⟩)),
  (46, fun z9 W => z9 = .pointer (some ⟨rp, 0, none⟩)),
  (47, fun z9 W => z9 = Vi (p : Int)),
  (48, fun z9 W => z9 = .pointer (some ⟨b, 0, none⟩)),
  (49, fun z9 W => z9 = .pointer (some ⟨b, 0, none⟩)),
  (50, fun z9 W => z9 = .pointer (some ⟨b, 1, none⟩)),
  (51, fun z9 W => z9 = .pointer (some ⟨lp, 0, none⟩)),
  (52, fun z9 W => z9 = .pointer (some ⟨lp, 0, none⟩)),
  (53, fun z9 W => z9 = .pointer (some ⟨lp, 4, none⟩)),
  (54, fun z9 W => z9 = Vi (na : Int)),
  (55, fun z9 W => z9 = Vi (m : Int)),
  (56, fun z9 W => NewP G W z9 (hideTr tb m))]
theorem yh7Tab_mono (G : Nat → Prop) (b lp rp p na m : Nat) (tb : Tr) (Rel : World → World → Prop) (hR : ∀ W W', Rel W W' → Ext W W') : SoftMonoR Rel (yh7Tab G b lp rp p na m tb) := by
  intro p hp v W W' h hx
  simp only [yh7Tab, List.mem_cons, List.not_mem_nil, or_false] at hp
  rcases hp with rfl | rfl | rfl | rfl | rfl | rfl | rfl | rfl | rfl | rfl | rfl | rfl | rfl | rfl | rfl | rfl | rfl | rfl
  all_goals first
    | exact h
    | exact NewP.ext h (hR _ _ hx)

theorem chunkOwn_any {G : Nat → Prop} {w w2 : World} {v : Value} {l : List En} (ho : OwnE w w2 v l) (hb : l.length ≤ 100000) (hG : Up G w) (hx : Ext w w2) :
    Calls Try.prog 72 #[v] w2 (RetN G w2 (.leaf l)) := by
  obtain ⟨A, c, rfl, hc, hE⟩ := OwnE.open ho
  refine chunkOf_any A l.length c l w2 hE rfl hc hb (hG.ext hx) fun h0 => ?_
  obtain ⟨g, c', e, hg, _⟩ := OwnE.block ho h0
  injection e with e1
  exact ⟨g, 0, e1, hG g hg⟩

set_option maxRecDepth 100000 in
set_option maxHeartbeats 16000000 in
theorem partOf_any {G : Nat → Prop} : ∀ (k : Nat) (l : List En) (A : Option Addr) (n cap : Nat) (w : World), l.length ≤ k → EnS w A l → l.length = n → n ≤ cap → n ≤ 100000 → Up G w →
    Calls Try.prog 80 #[.slice A n cap] w (RetN G w (partTr l)) := by
  intro k
  induction k with
  | zero =>
    intro l A n cap w hk hv hn hcap hb hG
    obtain rfl : l = [] := List.length_eq_zero_iff.1 (by omega)
    subst hn
    have hcl := Lib.hid (clone_any A 0 cap [] w hv rfl (by omega))
    rw [part_small (by simp)]
    go_enter Try.func80, Try.ntmps80
    go_wp2_with fail
    refine hcl.out.mono ?_
    rintro e w2 ⟨v2, rfl, o2, x2⟩
    go_wp2_with fail
    refine (chunkOwn_any o2 (by simp) hG x2).mono ?_
    rintro e w4 ⟨v4, rfl, o4, x4⟩
    go_wp2
    go_ret
    exact ⟨v4, rfl, o4, x2.trans x4⟩
  | succ k ih =>
    intro l A n cap w hk hv hn hcap hb hG
    by_cases hs : n ≤ 16
    · have hcl := Lib.hid (clone_any A n cap l w hv hn hb)
      have hd : decide ((n : Int) ≤ 16) = true := by rw [decide_eq_true_eq]; omega
      rw [part_small (by omega)]
      go_enter Try.func80, Try.ntmps80
      go_wp2_with fail
      refine hcl.out.mono ?_
      rintro e w2 ⟨v2, rfl, o2, x2⟩
      go_wp2_with fail
      refine (chunkOwn_any o2 (by omega) hG x2).mono ?_
      rintro e w4 ⟨v4, rfl, o4, x4⟩
      go_wp2
      go_ret
      exact ⟨v4, rfl, o4, x2.trans x4⟩
    · have hd : decide ((n : Int) ≤ 16) = false := by rw [decide_eq_false_iff_not]; omega
      rw [part_big (by omega)]
      obtain ⟨h, hh⟩ : ∃ h, l.length / 2 = h := ⟨_, rfl⟩
      rw [hh]
      have hdv : (n : Int) / 2 = (h : Int) := by omega
      have hup := uptoE A n cap h (by omega) (h : Int) rfl
      have hfr := fromE A n cap h (by omega) (h : Int) rfl
      have hp1 := Lib.hid (fun W (hx : Ext w W) => ih (l.take h) A h cap W (by rw [List.length_take]; omega) ((hv.take h).ext hx) (by rw [List.length_take]; omega) (by omega) (by omega) (hG.ext hx))
      have hp2 := Lib.hid (fun W (hx : Ext w W) => ih (l.drop h) (cutA A cap h 4) (n - h) (cap - h) W (by rw [List.length_drop]; omega) ((hv.cut hn hcap (by omega)).ext hx) (by rw [List.length_drop]; omega) (by omega) (by omega) (hG.ext hx))
      have hok1 : okR (partTr (l.take h)) := part_ok (fun e => by have := congrArg List.length e; rw [List.length_take, List.length_nil] at this; omega)
      have hok2 : okR (partTr (l.drop h)) := part_ok (fun e => by have := congrArg List.length e; rw [List.length_drop, List.length_nil] at this; omega)
      clear ih hv
      go_enter Try.func80, Try.ntmps80
      go_wp2_with fail
      try rw [hdv]
      refine wp_soft_frame Ext 8 (ypTab G A n cap h l) (by kernel_rfl) (by kernel_rfl) (fun _ _ _ => Ext.trans) ((Ext.refl _).drew) rfl (by show List.Nodup [13, 14, 15, 16, 17, 18, 19, 20]; decide) (by show ∀ d ∈ [13, 14, 15, 16, 17, 18, 19, 20], d < 22; decide) (ypTab_mono G A n cap h l Ext (fun _ _ h => h)) ?_ ⟨?_, ?_, ?_, ?_, ?_, ?_, ?_, ?_, trivial⟩
      · intro W vs hT hR
        match vs, hT with
        | [v0, v1, v2, v3, v4, v5, v6, v7], ⟨e0, e1, e2, e3, e4, e5, e6, e7, _⟩ =>
          simp only [ypTab, List.map_cons, List.map_nil, List.zip_cons_cons, List.zip_nil_left, putAll, List.setIfInBounds_toArray, List.set_cons_zero, List.set_cons_succ, List.drop_succ_cons, List.drop_zero]
          simp only at e0 e1 e2 e4 e5 e6
          obtain ⟨q3, e3, h3⟩ := e3
          obtain ⟨q7, e7, h7⟩ := e7
          rw [e0, e1, e2, e3, e4, e5, e6, e7]
          clear e0 e1 e2 e3 e4 e5 e6 e7 v0 v1 v2 v3 v4 v5 v6 v7
          go_wp2_with fail
          refine (join_any h3 h7 (hG.ext hR) hok1 hok2 (by unfold cnt; rw [ents_part, ents_part, List.length_take, List.length_drop]; omega)).mono ?_
          rintro e w4 ⟨v4, rfl, o4, x4⟩
          go_wp2
          go_ret
          exact ⟨v4, rfl, o4, hR.trans x4⟩
      · refine softR_val 13 _ (by kernel_rfl) rfl rfl ?_
        intro a W hx hout hdep
        have ev0 : a.tmps[0]?.getD undef = .slice A n cap := by rw [← Array.getD_eq_getD_getElem?]; exact hout 0 (by show 0 ∉ [13, 14, 15, 16, 17, 18, 19, 20]; decide)
        refine ⟨rfl, .slice A n cap, W, ?_, rfl, Ext.refl _⟩
        simp [ev0, execOp, go_sem]
      · refine softR_val 14 _ (by kernel_rfl) rfl rfl ?_
        intro a W hx hout hdep
        have ev3 : a.tmps[3]?.getD undef = Vi (h : Int) := by rw [← Array.getD_eq_getD_getElem?]; exact hout 3 (by show 3 ∉ [13, 14, 15, 16, 17, 18, 19, 20]; decide)
        refine ⟨rfl, Vi (h : Int), W, ?_, rfl, Ext.refl _⟩
        simp [ev3, execOp, go_sem]
      · refine softR_val 15 _ (by kernel_rfl) rfl rfl ?_
        intro a W hx hout hdep
        have ev13 : a.tmps[13]?.getD undef = .slice A n cap := by rw [← Array.getD_eq_getD_getElem?]; exact (hdep ⟨0, .data⟩ (by simp) rfl 13 _ rfl).1
        have ev14 : a.tmps[14]?.getD undef = Vi (h : Int) := by rw [← Array.getD_eq_getD_getElem?]; exact (hdep ⟨1, .data⟩ (by simp) rfl 14 _ rfl).1
        refine ⟨rfl, .slice A h cap, W, ?_, rfl, Ext.refl _⟩
        simp [ev13, ev14, hup, execOp, go_sem]
      · refine softR_call 16 _ (by kernel_rfl) rfl rfl ?_
        intro a W hx hout hdep
        have ev15 : a.tmps[15]?.getD undef = .slice A h cap := by rw [← Array.getD_eq_getD_getElem?]; exact (hdep ⟨2, .data⟩ (by simp) rfl 15 _ rfl).1
        refine ⟨rfl, 80, #[.slice A h cap], ?_, ?_⟩
        · simp [ev15, execOp, go_sem]
        · exact (hp1.out W hx).mono (by rintro e W1 ⟨v, rfl, h1, h2⟩; exact ⟨v, rfl, h1, h2⟩)
      · refine softR_val 17 _ (by kernel_rfl) rfl rfl ?_
        intro a W hx hout hdep
        have ev0 : a.tmps[0]?.getD undef = .slice A n cap := by rw [← Array.getD_eq_getD_getElem?]; exact hout 0 (by show 0 ∉ [13, 14, 15, 16, 17, 18, 19, 20]; decide)
        refine ⟨rfl, .slice A n cap, W, ?_, rfl, Ext.refl _⟩
        simp [ev0, execOp, go_sem]
      · refine softR_val 18 _ (by kernel_rfl) rfl rfl ?_
        intro a W hx hout hdep
        have ev3 : a.tmps[3]?.getD undef = Vi (h : Int) := by rw [← Array.getD_eq_getD_getElem?]; exact hout 3 (by show 3 ∉ [13, 14, 15, 16, 17, 18, 19, 20]; decide)
        refine ⟨rfl, Vi (h : Int), W, ?_, rfl, Ext.refl _⟩
        simp [ev3, execOp, go_sem]
      · refine softR_val 19 _ (by kernel_rfl) rfl rfl ?_
        intro a W hx hout hdep
        have ev17 : a.tmps[17]?.getD undef = .slice A n cap := by rw [← Array.getD_eq_getD_getElem?]; exact (hdep ⟨4, .data⟩ (by simp) rfl 17 _ rfl).1
        have ev18 : a.tmps[18]?.getD undef = Vi (h : Int) := by rw [← Array.getD_eq_getD_getElem?]; exact (hdep ⟨5, .data⟩ (by simp) rfl 18 _ rfl).1
        refine ⟨rfl, .slice (cutA A cap h 4) (n - h) (cap - h), W, ?_, rfl, Ext.refl _⟩
        simp [ev17, ev18, hfr, execOp, go_sem]
      · refine softR_call 20 _ (by kernel_rfl) rfl rfl ?_
        intro a W hx hout hdep
        have ev19 : a.tmps[19]?.getD undef = .slice (cutA A cap h 4) (n - h) (cap - h) := by rw [← Array.getD_eq_getD_getElem?]; exact (hdep ⟨6, .data⟩ (by simp) rfl 19 _ rfl).1
        refine ⟨rfl, 80, #[.slice (cutA A cap h 4) (n - h) (cap - h)], ?_, ?_⟩
        · simp [ev19, execOp, go_sem]
        · exact (hp2.out W hx).mono (by rintro e W1 ⟨v, rfl, h1, h2⟩; exact ⟨v, rfl, h1, h2⟩)

set_option maxRecDepth 100000 in
set_option maxHeartbeats 16000000 in
theorem put_any {G : Nat → Prop} (x : En) : ∀ (t : Tr) (b p : Nat) (w : World), AtP G w b t → Up G w → (t = .leaf [] ∨ okR t) → p ≤ cnt t → cnt t ≤ 50000 →
    Calls Try.prog 58 #[Vp b, Vi (p : Int), env x] w (RetN G w (putTr t p x)) := by
  intro t
  induction t with
  | leaf l =>
    rintro b p w ⟨_, ch, lf, rt, ⟨c0, c1, c2, c3, c4, c5, c6, c7⟩, rfl, rfl, A, cap, rfl, hcap, hE, _⟩ hG hok hp hb
    have hp : p ≤ l.length := hp
    have hb : l.length ≤ 50000 := hb
    obtain ⟨n, hn⟩ : ∃ n, l.length = n := ⟨_, rfl⟩
    rw [hn] at hp hb hcap c0
    have x0 : Ext w (w.alloc (.cells #[.int .u32 x.c, .int .u32 x.k, .int .i32 x.ch, .bool x.g] 79)) := (Ext.refl _).alloc _
    obtain ⟨eb, heb⟩ : ∃ eb, w.heap.size = eb := ⟨_, rfl⟩
    obtain ⟨w1, hw1⟩ : ∃ W, w.alloc (.cells #[.int .u32 x.c, .int .u32 x.k, .int .i32 x.ch, .bool x.g] 79) = W := ⟨_, rfl⟩
    have e0 : w1.cell? ⟨eb, 0, none⟩ = some (Vu x.c) := by rw [← hw1, ← heb]; simp [go_sem]
    have e1 : w1.cell? ⟨eb, 1, none⟩ = some (Vu x.k) := by rw [← hw1, ← heb]; simp [go_sem]
    have e2 : w1.cell? ⟨eb, 2, none⟩ = some (.int .i32 x.ch) := by rw [← hw1, ← heb]; simp [go_sem]
    have e3 : w1.cell? ⟨eb, 3, none⟩ = some (.bool x.g) := by rw [← hw1, ← heb]; simp [go_sem]
    rw [hw1] at x0
    have c0 := x0.keep c0
    have hl := Lib.hid (leaf_any b w1 (x0.keep c1))
    have hE1 := Lib.hid (hE.ext x0)
    have hup := uptoE A n cap p (by omega) (p : Int) rfl
    have hfr := fromE A n cap p hp (p : Int) rfl
    replace hw1 := Lib.hid hw1
    replace heb := Lib.hid heb
    clear hE c1 c2 c3 c4 c5 c6 c7
    go_enter Try.func58, Try.ntmps58
    go_wp2_with fail
    rw [hw1.out, heb.out]
    refine hl.out.mono ?_
    rintro e w1' ⟨rfl, hw1'⟩
    subst hw1'
    go_wp2_with fail
    refine wp_soft_frame Ext 14 (yu2Tab A n cap b eb p x) (by kernel_rfl) (by kernel_rfl) (fun _ _ _ => Ext.trans) ((Ext.refl _).drew) rfl (by show List.Nodup [9, 10, 11, 12, 13, 14, 15, 16, 17, 18, 19, 20, 21, 22]; decide) (by show ∀ d ∈ [9, 10, 11, 12, 13, 14, 15, 16, 17, 18, 19, 20, 21, 22], d < 67; decide) (yu2Tab_mono A n cap b eb p x Ext (fun _ _ h => h)) ?_ ⟨?_, ?_, ?_, ?_, ?_, ?_, ?_, ?_, ?_, ?_, ?_, ?_, ?_, ?_, trivial⟩
    · intro W vs hT hR
      match vs, hT with
      | [v0, v1, v2, v3, v4, v5, v6, v7, v8, v9, v10, v11, v12, v13], ⟨e0, e1, e2, e3, e4, e5, e6, e7, e8, e9, e10, e11, e12, e13, _⟩ =>
        simp only [yu2Tab, List.map_cons, List.map_nil, List.zip_cons_cons, List.zip_nil_left, putAll, List.setIfInBounds_toArray, List.set_cons_zero, List.set_cons_succ, List.drop_succ_cons, List.drop_zero]
        simp only at e0 e1 e2 e3 e4 e5 e6 e8 e9 e10 e11 e12 e13
        obtain ⟨q7, e7, h7⟩ := e7
        rw [e0, e1, e2, e3, e4, e5, e6, e7, e8, e9, e10, e11, e12, e13]
        clear e0 e1 e2 e3 e4 e5 e6 e7 e8 e9 e10 e11 e12 e13 v0 v1 v2 v3 v4 v5 v6 v7 v8 v9 v10 v11 v12 v13
        have y1 : Ext W (W.alloc (.cells #[.slice A p cap, .slice (some ⟨q7, 0, none⟩) 1 1, .slice (cutA A cap p 4) (n - p) (cap - p)] 24)) := (Ext.refl W).alloc _
        have k0 : (W.alloc (.cells #[.slice A p cap, .slice (some ⟨q7, 0, none⟩) 1 1, .slice (cutA A cap p 4) (n - p) (cap - p)] 24)).cell? ⟨W.heap.size, 0, none⟩ = some (.slice A p cap) := by simp [go_sem]
        have k1 : (W.alloc (.cells #[.slice A p cap, .slice (some ⟨q7, 0, none⟩) 1 1, .slice (cutA A cap p 4) (n - p) (cap - p)] 24)).cell? ⟨W.heap.size, 1, none⟩ = some (.slice (some ⟨q7, 0, none⟩) 1 1) := by simp [go_sem]
        have k2 : (W.alloc (.cells #[.slice A p cap, .slice (some ⟨q7, 0, none⟩) 1 1, .slice (cutA A cap p 4) (n - p) (cap - p)] 24)).cell? ⟨W.heap.size, 2, none⟩ = some (.slice (cutA A cap p 4) (n - p) (cap - p)) := by simp [go_sem]
        go_wp2_with fail
        generalize W.alloc (.cells #[.slice A p cap, .slice (some ⟨q7, 0, none⟩) 1 1, .slice (cutA A cap p 4) (n - p) (cap - p)] 24) = W2 at *
        have hX2 : Ext w W2 := (x0.trans hR).trans y1
        have hE2 := hE1.out.ext (hR.trans y1)
        have hlt : (l.take p).length = p := by rw [List.length_take]; omega
        have hld : (l.drop p).length = n - p := by rw [List.length_drop]; omega
        have hcat : catL [⟨A, cap, l.take p⟩, ⟨some ⟨q7, 0, none⟩, 1, [x]⟩, ⟨cutA A cap p 4, cap - p, l.drop p⟩] = putE l p x := by simp [catL, putE]
        have hcc := concat_any W.heap.size 3 3 [⟨A, cap, l.take p⟩, ⟨some ⟨q7, 0, none⟩, 1, [x]⟩, ⟨cutA A cap p 4, cap - p, l.drop p⟩] W2 (fun j y hj => by
          match j, hj with
          | 0, hj =>
            simp only [List.getElem?_cons_zero, Option.some.injEq] at hj
            subst hj
            exact ⟨by rw [k0, hlt], hE2.take p⟩
          | 1, hj =>
            simp only [List.getElem?_cons_succ, List.getElem?_cons_zero, Option.some.injEq] at hj
            subst hj
            exact ⟨k1, (h7.row).ext y1⟩
          | 2, hj =>
            simp only [List.getElem?_cons_succ, List.getElem?_cons_zero, Option.some.injEq] at hj
            subst hj
            exact ⟨by rw [k2, hld], hE2.cut hn hcap hp⟩
          | j + 3, hj => simp at hj) rfl (by omega) (by simp [sumL]; omega)
        rw [hcat] at hcc
        refine hcc.mono ?_
        rintro e w4 ⟨v4, rfl, o4, x4⟩
        obtain ⟨A4, c4, rfl, hc4, hE4⟩ := OwnE.open o4
        go_wp2_with fail
        refine (partOf_any _ (putE l p x) A4 _ c4 w4 (Nat.le_refl _) hE4 rfl hc4 (by rw [put_len (by omega)]; omega) (hG.ext (hX2.trans x4))).mono ?_
        rintro e w5 ⟨v5, rfl, o5, x5⟩
        go_wp2
        go_ret
        exact ⟨v5, rfl, o5, (hX2.trans x4).trans x5⟩
    · refine softR_val 9 _ (by kernel_rfl) rfl rfl ?_
      intro a W hx hout hdep
      have ev0 : a.tmps[0]?.getD undef = .pointer (some ⟨b, 0, none⟩) := by rw [← Array.getD_eq_getD_getElem?]; exact hout 0 (by show 0 ∉ [9, 10, 11, 12, 13, 14, 15, 16, 17, 18, 19, 20, 21, 22]; decide)
      refine ⟨rfl, .pointer (some ⟨b, 0, none⟩), W, ?_, rfl, Ext.refl _⟩
      simp [ev0, execOp, go_sem]
    · refine softR_val 10 _ (by kernel_rfl) rfl rfl ?_
      intro a W hx hout hdep
      have ev9 : a.tmps[9]?.getD undef = .pointer (some ⟨b, 0, none⟩) := by rw [← Array.getD_eq_getD_getElem?]; exact (hdep ⟨0, .data⟩ (by simp) rfl 9 _ rfl).1
      refine ⟨rfl, .pointer (some ⟨b, 0, none⟩), W, ?_, rfl, Ext.refl _⟩
      simp [ev9, execOp, go_sem]
    · refine softR_val 11 _ (by kernel_rfl) rfl rfl ?_
      intro a W hx hout hdep
      have ev10 : a.tmps[10]?.getD undef = .pointer (some ⟨b, 0, none⟩) := by rw [← Array.getD_eq_getD_getElem?]; exact (hdep ⟨1, .data⟩ (by simp) rfl 10 _ rfl).1
      refine ⟨rfl, .pointer (some ⟨b, 0, none⟩), W, ?_, rfl, Ext.refl _⟩
      simp [ev10, execOp, go_sem]
    · refine softR_val 12 _ (by kernel_rfl) rfl rfl ?_
      intro a W hx hout hdep
      have ev11 : a.tmps[11]?.getD undef = .pointer (some ⟨b, 0, none⟩) := by rw [← Array.getD_eq_getD_getElem?]; exact (hdep ⟨2, .data⟩ (by simp) rfl 11 _ rfl).1
      have q0 := hx.keep c0
      refine ⟨rfl, .slice A n cap, W, ?_, rfl, Ext.refl _⟩
      simp [ev11, q0, execOp, go_sem]
    · refine softR_val 13 _ (by kernel_rfl) rfl rfl ?_
      intro a W hx hout hdep
      have ev1 : a.tmps[1]?.getD undef = Vi (p : Int) := by rw [← Array.getD_eq_getD_getElem?]; exact hout 1 (by show 1 ∉ [9, 10, 11, 12, 13, 14, 15, 16, 17, 18, 19, 20, 21, 22]; decide)
      refine ⟨rfl, Vi (p : Int), W, ?_, rfl, Ext.refl _⟩
      simp [ev1, execOp, go_sem]
    · refine softR_val 14 _ (by kernel_rfl) rfl rfl ?_
      intro a W hx hout hdep
      have ev12 : a.tmps[12]?.getD undef = .slice A n cap := by rw [← Array.getD_eq_getD_getElem?]; exact (hdep ⟨3, .data⟩ (by simp) rfl 12 _ rfl).1
      have ev13 : a.tmps[13]?.getD undef = Vi (p : Int) := by rw [← Array.getD_eq_getD_getElem?]; exact (hdep ⟨4, .data⟩ (by simp) rfl 13 _ rfl).1
      refine ⟨rfl, .slice A p cap, W, ?_, rfl, Ext.refl _⟩
      simp [ev12, ev13, hup, execOp, go_sem]
    · refine softR_val 15 _ (by kernel_rfl) rfl rfl ?_
      intro a W hx hout hdep
      have ev5 : a.tmps[5]?.getD undef = .pointer (some ⟨eb, 0, none⟩) := by rw [← Array.getD_eq_getD_getElem?]; exact hout 5 (by show 5 ∉ [9, 10, 11, 12, 13, 14, 15, 16, 17, 18, 19, 20, 21, 22]; decide)
      have q0 := hx.keep e0
      have q1 := hx.keep e1
      have q2 := hx.keep e2
      have q3 := hx.keep e3
      refine ⟨rfl, env x, W, ?_, rfl, Ext.refl _⟩
      simp [ev5, q0, q1, q2, q3, execOp, go_sem]
    · refine softR_val 16 _ (by kernel_rfl) rfl rfl ?_
      intro a W hx hout hdep
      have ev15 : a.tmps[15]?.getD undef = env x := by rw [← Array.getD_eq_getD_getElem?]; exact (hdep ⟨6, .data⟩ (by simp) rfl 15 _ rfl).1
      refine ⟨rfl, .slice (some ⟨W.heap.size, 0, none⟩) 1 1, _, ?_, ⟨_, rfl, heap_alloc_new W _⟩, (Ext.refl W).alloc _⟩
      simp [ev15, execOp, go_sem]
    · refine softR_val 17 _ (by kernel_rfl) rfl rfl ?_
      intro a W hx hout hdep
      have ev0 : a.tmps[0]?.getD undef = .pointer (some ⟨b, 0, none⟩) := by rw [← Array.getD_eq_getD_getElem?]; exact hout 0 (by show 0 ∉ [9, 10, 11, 12, 13, 14, 15, 16, 17, 18, 19, 20, 21, 22]; decide)
      refine ⟨rfl, .pointer (some ⟨b, 0, none⟩), W, ?_, rfl, Ext.refl _⟩
      simp [ev0, execOp, go_sem]
    · refine softR_val 18 _ (by kernel_rfl) rfl rfl ?_
      intro a W hx hout hdep
      have ev17 : a.tmps[17]?.getD undef = .pointer (some ⟨b, 0, none⟩) := by rw [← Array.getD_eq_getD_getElem?]; exact (hdep ⟨8, .data⟩ (by simp) rfl 17 _ rfl).1
      refine ⟨rfl, .pointer (some ⟨b, 0, none⟩), W, ?_, rfl, Ext.refl _⟩
      simp [ev17, execOp, go_sem]
    · refine softR_val 19 _ (by kernel_rfl) rfl rfl ?_
      intro a W hx hout hdep
      have ev18 : a.tmps[18]?.getD undef = .pointer (some ⟨b, 0, none⟩) := by rw [← Array.getD_eq_getD_getElem?]; exact (hdep ⟨9, .data⟩ (by simp) rfl 18 _ rfl).1
      refine ⟨rfl, .pointer (some ⟨b, 0, none⟩), W, ?_, rfl, Ext.refl _⟩
      simp [ev18, execOp, go_sem]
    · refine softR_val 20 _ (by kernel_rfl) rfl rfl ?_
      intro a W hx hout hdep
      have ev19 : a.tmps[19]?.getD undef = .pointer (some ⟨b, 0, none⟩) := by rw [← Array.getD_eq_getD_getElem?]; exact (hdep ⟨10, .data⟩ (by simp) rfl 19 _ rfl).1
      have q0 := hx.keep c0
      refine ⟨rfl, .slice A n cap, W, ?_, rfl, Ext.refl _⟩
      simp [ev19, q0, execOp, go_sem]
    · refine softR_val 21 _ (by kernel_rfl) rfl rfl ?_
      intro a W hx hout hdep
      have ev1 : a.tmps[1]?.getD undef = Vi (p : Int) := by rw [← Array.getD_eq_getD_getElem?]; exact hout 1 (by show 1 ∉ [9, 10, 11, 12, 13, 14, 15, 16, 17, 18, 19, 20, 21, 22]; decide)
      refine ⟨rfl, Vi (p : Int), W, ?_, rfl, Ext.refl _⟩
      simp [ev1, execOp, go_sem]
    · refine softR_val 22 _ (by kernel_rfl) rfl rfl ?_
      intro a W hx hout hdep
      have ev20 : a.tmps[20]?.getD undef = .slice A n cap := by rw [← Array.getD_eq_getD_getElem?]; exact (hdep ⟨11, .data⟩ (by simp) rfl 20 _ rfl).1
      have ev21 : a.tmps[21]?.getD undef = Vi (p : Int) := by rw [← Array.getD_eq_getD_getElem?]; exact (hdep ⟨12, .data⟩ (by simp) rfl 21 _ rfl).1
      refine ⟨rfl, .slice (cutA A cap p 4) (n - p) (cap - p), W, ?_, rfl, Ext.refl _⟩
      simp [ev20, ev21, hfr, execOp, go_sem]
  | node ta tb iha ihb =>
    rintro b p w ⟨_, ch, lf, rt, ⟨c0, c1, c2, c3, c4, c5, c6, c7⟩, hPV⟩ hG hok hp hb
    obtain ⟨rfl, lp, rp, rfl, rfl, hA, hB⟩ := hPV.node
    have hok : okR (.node ta tb) := by
      rcases hok with h | h
      · cases h
      · exact h
    rw [cnt_node] at hp hb
    have hA' := hA
    obtain ⟨_, _, _, _, ⟨_, _, _, _, l4, _, _, _⟩, _⟩ := hA'
    have x0 : Ext w (w.alloc (.cells #[.int .u32 x.c, .int .u32 x.k, .int .i32 x.ch, .bool x.g] 79)) := (Ext.refl _).alloc _
    obtain ⟨eb, heb⟩ : ∃ eb, w.heap.size = eb := ⟨_, rfl⟩
    obtain ⟨w1, hw1⟩ : ∃ W, w.alloc (.cells #[.int .u32 x.c, .int .u32 x.k, .int .i32 x.ch, .bool x.g] 79) = W := ⟨_, rfl⟩
    have e0 : w1.cell? ⟨eb, 0, none⟩ = some (Vu x.c) := by rw [← hw1, ← heb]; simp [go_sem]
    have e1 : w1.cell? ⟨eb, 1, none⟩ = some (Vu x.k) := by rw [← hw1, ← heb]; simp [go_sem]
    have e2 : w1.cell? ⟨eb, 2, none⟩ = some (.int .i32 x.ch) := by rw [← hw1, ← heb]; simp [go_sem]
    have e3 : w1.cell? ⟨eb, 3, none⟩ = some (.bool x.g) := by rw [← hw1, ← heb]; simp [go_sem]
    rw [hw1] at x0
    have c1 := x0.keep c1
    have c2 := x0.keep c2
    have l4 := x0.keep l4
    have hl := Lib.hid (node_any b lp w1 c1)
    replace hw1 := Lib.hid hw1
    replace heb := Lib.hid heb
    clear c0 c3 c4 c5 c6 c7 hPV
    by_cases hle : p ≤ cnt ta
    · have hca := Lib.hid (fun W (hx : Ext w1 W) => iha lp p W (hA.ext (x0.trans hx)) (hG.ext (x0.trans hx)) (.inr hok.1) hle (by omega))
      have hd : decide ((p : Int) ≤ (cnt ta : Int)) = true := by rw [decide_eq_true_eq]; omega
      have hok1 : okR (putTr ta p x) := putTr_ok ta p x (.inr hok.1)
      have hcn : cnt (putTr ta p x) = cnt ta + 1 := putTr_cnt ta p x hle
      have hres : putTr (.node ta tb) p x = balTr (putTr ta p x) tb := by rw [putTr, if_pos hle]
      rw [hres]
      clear iha ihb hres
      go_enter Try.func58, Try.ntmps58
      go_wp2_with fail
      rw [hw1.out, heb.out]
      refine hl.out.mono ?_
      rintro e w1' ⟨rfl, hw1'⟩
      subst hw1'
      go_wp2_with fail
      refine wp_soft_frame Ext 11 (yu4Tab G b lp rp eb p ta x) (by kernel_rfl) (by kernel_rfl) (fun _ _ _ => Ext.trans) ((Ext.refl _).drew) rfl (by show List.Nodup [35, 36, 37, 38, 39, 40, 41, 42, 43, 44, 45]; decide) (by show ∀ d ∈ [35, 36, 37, 38, 39, 40, 41, 42, 43, 44, 45], d < 67; decide) (yu4Tab_mono G b lp rp eb p ta x Ext (fun _ _ h => h)) ?_ ⟨?_, ?_, ?_, ?_, ?_, ?_, ?_, ?_, ?_, ?_, ?_, trivial⟩
      · intro W vs hT hR
        match vs, hT with
        | [v0, v1, v2, v3, v4, v5, v6, v7, v8, v9, v10], ⟨e0, e1, e2, e3, e4, e5, e6, e7, e8, e9, e10, _⟩ =>
          simp only [yu4Tab, List.map_cons, List.map_nil, List.zip_cons_cons, List.zip_nil_left, putAll, List.setIfInBounds_toArray, List.set_cons_zero, List.set_cons_succ, List.drop_succ_cons, List.drop_zero]
          simp only at e0 e1 e2 e3 e4 e5 e7 e8 e9 e10
          obtain ⟨q6, e6, h6⟩ := e6
          rw [e0, e1, e2, e3, e4, e5, e6, e7, e8, e9, e10]
          clear e0 e1 e2 e3 e4 e5 e6 e7 e8 e9 e10 v0 v1 v2 v3 v4 v5 v6 v7 v8 v9 v10
          go_wp2_with fail
          refine (bal_any h6 (hB.ext (x0.trans hR)) (hG.ext (x0.trans hR)) hok1 hok.2 (by rw [hcn]; omega)).mono ?_
          rintro e w4 ⟨v4, rfl, o4, x4⟩
          go_wp2
          go_ret
          exact ⟨v4, rfl, o4, (x0.trans hR).trans x4⟩
      · refine softR_val 35 _ (by kernel_rfl) rfl rfl ?_
        intro a W hx hout hdep
        have ev0 : a.tmps[0]?.getD undef = .pointer (some ⟨b, 0, none⟩) := by rw [← Array.getD_eq_getD_getElem?]; exact hout 0 (by show 0 ∉ [35, 36, 37, 38, 39, 40, 41, 42, 43, 44, 45]; decide)
        refine ⟨rfl, .pointer (some ⟨b, 0, none⟩), W, ?_, rfl, Ext.refl _⟩
        simp [ev0, execOp, go_sem]
      · refine softR_val 36 _ (by kernel_rfl) rfl rfl ?_
        intro a W hx hout hdep
        have ev35 : a.tmps[35]?.getD undef = .pointer (some ⟨b, 0, none⟩) := by rw [← Array.getD_eq_getD_getElem?]; exact (hdep ⟨0, .data⟩ (by simp) rfl 35 _ rfl).1
        refine ⟨rfl, .pointer (some ⟨b, 0, none⟩), W, ?_, rfl, Ext.refl _⟩
        simp [ev35, execOp, go_sem]
      · refine softR_val 37 _ (by kernel_rfl) rfl rfl ?_
        intro a W hx hout hdep
        have ev36 : a.tmps[36]?.getD undef = .pointer (some ⟨b, 0, none⟩) := by rw [← Array.getD_eq_getD_getElem?]; exact (hdep ⟨1, .data⟩ (by simp) rfl 36 _ rfl).1
        refine ⟨rfl, .pointer (some ⟨b, 1, none⟩), W, ?_, rfl, Ext.refl _⟩
        simp [ev36, execOp, go_sem]
      · refine softR_val 38 _ (by kernel_rfl) rfl rfl ?_
        intro a W hx hout hdep
        have ev37 : a.tmps[37]?.getD undef = .pointer (some ⟨b, 1, none⟩) := by rw [← Array.getD_eq_getD_getElem?]; exact (hdep ⟨2, .data⟩ (by simp) rfl 37 _ rfl).1
        have q0 := hx.keep c1
        refine ⟨rfl, .pointer (some ⟨lp, 0, none⟩), W, ?_, rfl, Ext.refl _⟩
        simp [ev37, q0, execOp, go_sem]
      · refine softR_val 39 _ (by kernel_rfl) rfl rfl ?_
        intro a W hx hout hdep
        have ev1 : a.tmps[1]?.getD undef = Vi (p : Int) := by rw [← Array.getD_eq_getD_getElem?]; exact hout 1 (by show 1 ∉ [35, 36, 37, 38, 39, 40, 41, 42, 43, 44, 45]; decide)
        refine ⟨rfl, Vi (p : Int), W, ?_, rfl, Ext.refl _⟩
        simp [ev1, execOp, go_sem]
      · refine softR_val 40 _ (by kernel_rfl) rfl rfl ?_
        intro a W hx hout hdep
        have ev5 : a.tmps[5]?.getD undef = .pointer (some ⟨eb, 0, none⟩) := by rw [← Array.getD_eq_getD_getElem?]; exact hout 5 (by show 5 ∉ [35, 36, 37, 38, 39, 40, 41, 42, 43, 44, 45]; decide)
        have q0 := hx.keep e0
        have q1 := hx.keep e1
        have q2 := hx.keep e2
        have q3 := hx.keep e3
        refine ⟨rfl, env x, W, ?_, rfl, Ext.refl _⟩
        simp [ev5, q0, q1, q2, q3, execOp, go_sem]
      · refine softR_call 41 _ (by kernel_rfl) rfl rfl ?_
        intro a W hx hout hdep
        have ev38 : a.tmps[38]?.getD undef = .pointer (some ⟨lp, 0, none⟩) := by rw [← Array.getD_eq_getD_getElem?]; exact (hdep ⟨3, .data⟩ (by simp) rfl 38 _ rfl).1
        have ev39 : a.tmps[39]?.getD undef = Vi (p : Int) := by rw [← Array.getD_eq_getD_getElem?]; exact (hdep ⟨4, .data⟩ (by simp) rfl 39 _ rfl).1
        have ev40 : a.tmps[40]?.getD undef = env x := by rw [← Array.getD_eq_getD_getElem?]; exact (hdep ⟨5, .data⟩ (by simp) rfl 40 _ rfl).1
        refine ⟨rfl, 58, #[.pointer (some ⟨lp, 0, none⟩), Vi (p : Int), env x], ?_, ?_⟩
        · simp [ev38, ev39, ev40, execOp, go_sem]
        · exact (hca.out W hx).mono (by rintro e W1 ⟨v, rfl, h1, h2⟩; exact ⟨v, rfl, h1, h2⟩)
      · refine softR_val 42 _ (by kernel_rfl) rfl rfl ?_
        intro a W hx hout hdep
        have ev0 : a.tmps[0]?.getD undef = .pointer (some ⟨b, 0, none⟩) := by rw [← Array.getD_eq_getD_getElem?]; exact hout 0 (by show 0 ∉ [35, 36, 37, 38, 39, 40, 41, 42, 43, 44, 45]; decide)
        refine ⟨rfl, .pointer (some ⟨b, 0, none⟩), W, ?_, rfl, Ext.refl _⟩
        simp [ev0, execOp, go_sem]
      · refine softR_val 43 _ (by kernel_rfl) rfl rfl ?_
        intro a W hx hout hdep
        have ev42 : a.tmps[42]?.getD undef = .pointer (some ⟨b, 0, none⟩) := by rw [← Array.getD_eq_getD_getElem?]; exact (hdep ⟨7, .data⟩ (by simp) rfl 42 _ rfl).1
        refine ⟨rfl, .pointer (some ⟨b, 0, none⟩), W, ?_, rfl, Ext.refl _⟩
        simp [ev42, execOp, go_sem]
      · refine softR_val 44 _ (by kernel_rfl) rfl rfl ?_
        intro a W hx hout hdep
        have ev43 : a.tmps[43]?.getD undef = .pointer (some ⟨b, 0, none⟩) := by rw [← Array.getD_eq_getD_getElem?]; exact (hdep ⟨8, .data⟩ (by simp) rfl 43 _ rfl).1
        refine ⟨rfl, .pointer (some ⟨b, 2, none⟩), W, ?_, rfl, Ext.refl _⟩
        simp [ev43, execOp, go_sem]
      · refine softR_val 45 _ (by kernel_rfl) rfl rfl ?_
        intro a W hx hout hdep
        have ev44 : a.tmps[44]?.getD undef = .pointer (some ⟨b, 2, none⟩) := by rw [← Array.getD_eq_getD_getElem?]; exact (hdep ⟨9, .data⟩ (by simp) rfl 44 _ rfl).1
        have q0 := hx.keep c2
        refine ⟨rfl, .pointer (some ⟨rp, 0, none⟩), W, ?_, rfl, Ext.refl _⟩
        simp [ev44, q0, execOp, go_sem]
    · obtain ⟨m, hm⟩ : ∃ m, p - cnt ta = m := ⟨_, rfl⟩
      have hcb := Lib.hid (fun W (hx : Ext w1 W) => ihb rp m W (hB.ext (x0.trans hx)) (hG.ext (x0.trans hx)) (.inr hok.2) (by omega) (by omega))
      have hd : decide ((p : Int) ≤ (cnt ta : Int)) = false := by rw [decide_eq_false_iff_not]; omega
      have hsub : IntKind.i64.wrap ((p : Int) - (cnt ta : Int)) = (m : Int) := by rw [show ((p : Int) - (cnt ta : Int)) = (m : Int) by omega]; exact IntWalk.i64_in _ (by omega)
      have hok1 : okR (putTr tb m x) := putTr_ok tb m x (.inr hok.2)
      have hcn : cnt (putTr tb m x) = cnt tb + 1 := putTr_cnt tb m x (by omega)
      have hres : putTr (.node ta tb) p x = balTr ta (putTr tb m x) := by rw [putTr, if_neg hle, hm]
      rw [hres]
      clear iha ihb hres
      obtain ⟨na, hna⟩ : ∃ na, cnt ta = na := ⟨_, rfl⟩
      rw [hna] at hsub hd l4 hle hm hp hb
      go_enter Try.func58, Try.ntmps58
      go_wp2_with fail
      rw [hw1.out, heb.out]
      refine hl.out.mono ?_
      rintro e w1' ⟨rfl, hw1'⟩
      subst hw1'
      go_wp2_with fail
      refine wp_soft_frame Ext 19 (yu5Tab G b lp rp eb p na m tb x) (by kernel_rfl) (by kernel_rfl) (fun _ _ _ => Ext.trans) ((Ext.refl _).drew) rfl (by show List.Nodup [47, 48, 49, 50, 51, 52, 53, 54, 55, 56, 57, 58, 59, 60, 61, 62, 63, 64, 65]; decide) (by show ∀ d ∈ [47, 48, 49, 50, 51, 52, 53, 54, 55, 56, 57, 58, 59, 60, 61, 62, 63, 64, 65], d < 67; decide) (yu5Tab_mono G b lp rp eb p na m tb x Ext (fun _ _ h => h)) ?_ ⟨?_, ?_, ?_, ?_, ?_, ?_, ?_, ?_, ?_, ?_, ?_, ?_, ?_, ?_, ?_, ?_, ?_, ?_, ?_, trivial⟩
      · intro W vs hT hR
        match vs, hT with
        | [v0, v1, v2, v3, v4, v5, v6, v7, v8, v9, v10, v11, v12, v13, v14, v15, v16, v17, v18], ⟨e0, e1, e2, e3, e4, e5, e6, e7, e8, e9, e10, e11, e12, e13, e14, e15, e16, e17, e18, _⟩ =>
          simp only [yu5Tab, List.map_cons, List.map_nil, List.zip_cons_cons, List.zip_nil_left, putAll, List.setIfInBounds_toArray, List.set_cons_zero, List.set_cons_succ, List.drop_succ_cons, List.drop_zero]
          simp only at e0 e1 e2 e3 e4 e5 e6 e7 e8 e9 e10 e11 e12 e13 e14 e15 e16 e17
          obtain ⟨q18, e18, h18⟩ := e18
          rw [e0, e1, e2, e3, e4, e5, e6, e7, e8, e9, e10, e11, e12, e13, e14, e15, e16, e17, e18]
          clear e0 e1 e2 e3 e4 e5 e6 e7 e8 e9 e10 e11 e12 e13 e14 e15 e16 e17 e18 v0 v1 v2 v3 v4 v5 v6 v7 v8 v9 v10 v11 v12 v13 v14 v15 v16 v17 v18
          go_wp2_with fail
          refine (bal_any (hA.ext (x0.trans hR)) h18 (hG.ext (x0.trans hR)) hok.1 hok1 (by rw [hcn]; omega)).mono ?_
          rintro e w4 ⟨v4, rfl, o4, x4⟩
          go_wp2
          go_ret
          exact ⟨v4, rfl, o4, (x0.trans hR).trans x4⟩
      · refine softR_val 47 _ (by kernel_rfl) rfl rfl ?_
        intro a W hx hout hdep
        have ev0 : a.tmps[0]?.getD undef = .pointer (some ⟨b, 0, none⟩) := by rw [← Array.getD_eq_getD_getElem?]; exact hout 0 (by show 0 ∉ [47, 48, 49, 50, 51, 52, 53, 54, 55, 56, 57, 58, 59, 60, 61, 62, 63, 64, 65]; decide)
        refine ⟨rfl, .pointer (some ⟨b, 0, none⟩), W, ?_, rfl, Ext.refl _⟩
        simp [ev0, execOp, go_sem]
      · refine softR_val 48 _ (by kernel_rfl) rfl rfl ?_
        intro a W hx hout hdep
        have ev47 : a.tmps[47]?.getD undef = .pointer (some ⟨b, 0, none⟩) := by rw [← Array.getD_eq_getD_getElem?]; exact (hdep ⟨0, .data⟩ (by simp) rfl 47 _ rfl).1
        refine ⟨rfl, .pointer (some ⟨b, 0, none⟩), W, ?_, rfl, Ext.refl _⟩
        simp [ev47, execOp, go_sem]
      · refine softR_val 49 _ (by kernel_rfl) rfl rfl ?_
        intro a W hx hout hdep
        have ev48 : a.tmps[48]?.getD undef = .pointer (some ⟨b, 0, none⟩) := by rw [← Array.getD_eq_getD_getElem?]; exact (hdep ⟨1, .data⟩ (by simp) rfl 48 _ rfl).1
        refine ⟨rfl, .pointer (some ⟨b, 1, none⟩), W, ?_, rfl, Ext.refl _⟩
        simp [ev48, execOp, go_sem]
      · refine softR_val 50 _ (by kernel_rfl) rfl rfl ?_
        intro a W hx hout hdep
        have ev49 : a.tmps[49]?.getD undef = .pointer (some ⟨b, 1, none⟩) := by rw [← Array.getD_eq_getD_getElem?]; exact (hdep ⟨2, .data⟩ (by simp) rfl 49 _ rfl).1
        have q0 := hx.keep c1
        refine ⟨rfl, .pointer (some ⟨lp, 0, none⟩), W, ?_, rfl, Ext.refl _⟩
        simp [ev49, q0, execOp, go_sem]
      · refine softR_val 51 _ (by kernel_rfl) rfl rfl ?_
        intro a W hx hout hdep
        have ev0 : a.tmps[0]?.getD undef = .pointer (some ⟨b, 0, none⟩) := by rw [← Array.getD_eq_getD_getElem?]; exact hout 0 (by show 0 ∉ [47, 48, 49, 50, 51, 52, 53, 54, 55, 56, 57, 58, 59, 60, 61, 62, 63, 64, 65]; decide)
        refine ⟨rfl, .pointer (some ⟨b, 0, none⟩), W, ?_, rfl, Ext.refl _⟩
        simp [ev0, execOp, go_sem]
      · refine softR_val 52 _ (by kernel_rfl) rfl rfl ?_
        intro a W hx hout hdep
        have ev51 : a.tmps[51]?.getD undef = .pointer (some ⟨b, 0, none⟩) := by rw [← Array.getD_eq_getD_getElem?]; exact (hdep ⟨4, .data⟩ (by simp) rfl 51 _ rfl).1
        refine ⟨rfl, .pointer (some ⟨b, 0, none⟩), W, ?_, rfl, Ext.refl _⟩
        simp [ev51, execOp, go_sem]
      · refine softR_val 53 _ (by kernel_rfl) rfl rfl ?_
        intro a W hx hout hdep
        have ev52 : a.tmps[52]?.getD undef = .pointer (some ⟨b, 0, none⟩) := by rw [← Array.getD_eq_getD_getElem?]; exact (hdep ⟨5, .data⟩ (by simp) rfl 52 _ rfl).1
        refine ⟨rfl, .pointer (some ⟨b, 2, none⟩), W, ?_, rfl, Ext.refl _⟩
        simp [ev52, execOp, go_sem]
      · refine softR_val 54 _ (by kernel_rfl) rfl rfl ?_
        intro a W hx hout hdep
        have ev53 : a.tmps[53]?.getD undef = .pointer (some ⟨b, 2, none⟩) := by rw [← Array.getD_eq_getD_getElem?]; exact (hdep ⟨6, .data⟩ (by simp) rfl 53 _ rfl).1
        have q0 := hx.keep c2
        refine ⟨rfl, .pointer (some ⟨rp, 0, none⟩), W, ?_, rfl, Ext.refl _⟩
        simp [ev53, q0, execOp, go_sem]
      · refine softR_val 55 _ (by kernel_rfl) rfl rfl ?_
        intro a W hx hout hdep
        have ev1 : a.tmps[1]?.getD undef = Vi (p : Int) := by rw [← Array.getD_eq_getD_getElem?]; exact hout 1 (by show 1 ∉ [47, 48, 49, 50, 51, 52, 53, 54, 55, 56, 57, 58, 59, 60, 61, 62, 63, 64, 65]; decide)
        refine ⟨rfl, Vi (p : Int), W, ?_, rfl, Ext.refl _⟩
        simp [ev1, execOp, go_sem]
      · refine softR_val 56 _ (by kernel_rfl) rfl rfl ?_
        intro a W hx hout hdep
        have ev0 : a.tmps[0]?.getD undef = .pointer (some ⟨b, 0, none⟩) := by rw [← Array.getD_eq_getD_getElem?]; exact hout 0 (by show 0 ∉ [47, 48, 49, 50, 51, 52, 53, 54, 55, 56, 57, 58, 59, 60, 61, 62, 63, 64, 65]; decide)
        refine ⟨rfl, .pointer (some ⟨b, 0, none⟩), W, ?_, rfl, Ext.refl _⟩
        simp [ev0, execOp, go_sem]
      · refine softR_val 57 _ (by kernel_rfl) rfl rfl ?_
        intro a W hx hout hdep
        have ev56 : a.tmps[56]?.getD undef = .pointer (some ⟨b, 0, none⟩) := by rw [← Array.getD_eq_getD_getElem?]; exact (hdep ⟨9, .data⟩ (by simp) rfl 56 _ rfl).1
        refine ⟨rfl, .pointer (some ⟨b, 0, none⟩), W, ?_, rfl, Ext.refl _⟩
        simp [ev56, execOp, go_sem]
      · refine softR_val 58 _ (by kernel_rfl) rfl rfl ?_
        intro a W hx hout hdep
        have ev57 : a.tmps[57]?.getD undef = .pointer (some ⟨b, 0, none⟩) := by rw [← Array.getD_eq_getD_getElem?]; exact (hdep ⟨10, .data⟩ (by simp) rfl 57 _ rfl).1
        refine ⟨rfl, .pointer (some ⟨b, 1, none⟩), W, ?_, rfl, Ext.refl _⟩
        simp [ev57, execOp, go_sem]
      · refine softR_val 59 _ (by kernel_rfl) rfl rfl ?_
        intro a W hx hout hdep
        have ev58 : a.tmps[58]?.getD undef = .pointer (some ⟨b, 1, none⟩) := by rw [← Array.getD_eq_getD_getElem?]; exact (hdep ⟨11, .data⟩ (by simp) rfl 58 _ rfl).1
        have q0 := hx.keep c1
        refine ⟨rfl, .pointer (some ⟨lp, 0, none⟩), W, ?_, rfl, Ext.refl _⟩
        simp [ev58, q0, execOp, go_sem]
      · refine softR_val 60 _ (by kernel_rfl) rfl rfl ?_
        intro a W hx hout hdep
        have ev59 : a.tmps[59]?.getD undef = .pointer (some ⟨lp, 0, none⟩) := by rw [← Array.getD_eq_getD_getElem?]; exact (hdep ⟨12, .data⟩ (by simp) rfl 59 _ rfl).1
        refine ⟨rfl, .pointer (some ⟨lp, 0, none⟩), W, ?_, rfl, Ext.refl _⟩
        simp [ev59, execOp, go_sem]
      · refine softR_val 61 _ (by kernel_rfl) rfl rfl ?_
        intro a W hx hout hdep
        have ev60 : a.tmps[60]?.getD undef = .pointer (some ⟨lp, 0, none⟩) := by rw [← Array.getD_eq_getD_getElem?]; exact (hdep ⟨13, .data⟩ (by simp) rfl 60 _ rfl).1
        refine ⟨rfl, .pointer (some ⟨lp, 4, none⟩), W, ?_, rfl, Ext.refl _⟩
        simp [ev60, execOp, go_sem]
      · refine softR_val 62 _ (by kernel_rfl) rfl rfl ?_
        intro a W hx hout hdep
        have ev61 : a.tmps[61]?.getD undef = .pointer (some ⟨lp, 4, none⟩) := by rw [← Array.getD_eq_getD_getElem?]; exact (hdep ⟨14, .data⟩ (by simp) rfl 61 _ rfl).1
        have q0 := hx.keep l4
        refine ⟨rfl, Vi (na : Int), W, ?_, rfl, Ext.refl _⟩
        simp [ev61, q0, execOp, go_sem]
      · refine softR_val 63 _ (by kernel_rfl) rfl rfl ?_
        intro a W hx hout hdep
        have ev55 : a.tmps[55]?.getD undef = Vi (p : Int) := by rw [← Array.getD_eq_getD_getElem?]; exact (hdep ⟨8, .data⟩ (by simp) rfl 55 _ rfl).1
        have ev62 : a.tmps[62]?.getD undef = Vi (na : Int) := by rw [← Array.getD_eq_getD_getElem?]; exact (hdep ⟨15, .data⟩ (by simp) rfl 62 _ rfl).1
        refine ⟨rfl, Vi (m : Int), W, ?_, rfl, Ext.refl _⟩
        simp [ev55, ev62, hsub, execOp, go_sem]
      · refine softR_val 64 _ (by kernel_rfl) rfl rfl ?_
        intro a W hx hout hdep
        have ev5 : a.tmps[5]?.getD undef = .pointer (some ⟨eb, 0, none⟩) := by rw [← Array.getD_eq_getD_getElem?]; exact hout 5 (by show 5 ∉ [47, 48, 49, 50, 51, 52, 53, 54, 55, 56, 57, 58, 59, 60, 61, 62, 63, 64, 65]; decide)
        have q0 := hx.keep e0
        have q1 := hx.keep e1
        have q2 := hx.keep e2
        have q3 := hx.keep e3
        refine ⟨rfl, env x, W, ?_, rfl, Ext.refl _⟩
        simp [ev5, q0, q1, q2, q3, execOp, go_sem]
      · refine softR_call 65 _ (by kernel_rfl) rfl rfl ?_
        intro a W hx hout hdep
        have ev54 : a.tmps[54]?.getD undef = .pointer (some ⟨rp, 0, none⟩) := by rw [← Array.getD_eq_getD_getElem?]; exact (hdep ⟨7, .data⟩ (by simp) rfl 54 _ rfl).1
        have ev63 : a.tmps[63]?.getD undef = Vi (m : Int) := by rw [← Array.getD_eq_getD_getElem?]; exact (hdep ⟨16, .data⟩ (by simp) rfl 63 _ rfl).1
        have ev64 : a.tmps[64]?.getD undef = env x := by rw [← Array.getD_eq_getD_getElem?]; exact (hdep ⟨17, .data⟩ (by simp) rfl 64 _ rfl).1
        refine ⟨rfl, 58, #[.pointer (some ⟨rp, 0, none⟩), Vi (m : Int), env x], ?_, ?_⟩
        · simp [ev54, ev63, ev64, execOp, go_sem]
        · exact (hcb.out W hx).mono (by rintro e W1 ⟨v, rfl, h1, h2⟩; exact ⟨v, rfl, h1, h2⟩)

set_option maxRecDepth 100000 in
set_option maxHeartbeats 16000000 in
theorem hide_any {G : Nat → Prop} : ∀ (t : Tr) (b p : Nat) (w : World), AtP G w b t → Up G w → (t = .leaf [] ∨ okR t) → p < cnt t → cnt t ≤ 50000 →
    Calls Try.prog 52 #[Vp b, Vi (p : Int)] w (RetN G w (hideTr t p)) := by
  intro t
  induction t with
  | leaf l =>
    rintro b p w ⟨_, ch, lf, rt, ⟨c0, c1, c2, c3, c4, c5, c6, c7⟩, rfl, rfl, A, cap, rfl, hcap, hE, _⟩ hG hok hp hb
    have hp : p < l.length := hp
    have hb : l.length ≤ 50000 := hb
    obtain ⟨x, hx⟩ : ∃ x, l[p]? = some x := ⟨l[p], List.getElem?_eq_getElem hp⟩
    have hcl := Lib.hid (clone_any A l.length cap l w hE rfl (by omega))
    have hl := Lib.hid (leaf_any b w c1)
    have hres : hideTr (.leaf l) p = .leaf (l.set p { x with g := true }) := by rw [hideTr, gone_set hx]
    rw [hres]
    clear hE c1 c2 c3 c4 c5 c6 c7 hres
    go_enter Try.func52, Try.ntmps52
    go_wp2_with fail
    refine hl.out.mono ?_
    rintro e w1 ⟨rfl, hw1⟩
    subst hw1
    go_wp2_with fail
    refine hcl.out.mono ?_
    rintro e w2 ⟨v2, rfl, o2, x2⟩
    obtain ⟨g, cc, rfl, hg, hg2⟩ := OwnE.block o2 (by omega)
    obtain ⟨o3, g3, f3⟩ := OwnE.hide o2 hx
    have k3 : w2.cell? ⟨g, p * 4 + 3, none⟩ = some (.bool x.g) := by
      obtain ⟨A', c', e, _, hE2⟩ := OwnE.open o2
      injection e with e1
      subst e1
      obtain ⟨b', o', x', e, hx', hc⟩ := hE2.at hp
      injection e with e
      injection e with e1 e2
      subst e1
      subst e2
      rw [hx] at hx'
      injection hx' with hx'
      subst hx'
      have := hc.c3
      rwa [Nat.zero_add] at this
    have x3 : Ext w (w2.setCell ⟨g, p * 4 + 3, none⟩ (.bool true)) := Ext.setCell x2 hg _
    have hlen : (l.set p { x with g := true }).length ≤ 100000 := by rw [List.length_set]; omega
    have hi1 : (0 : Int) ≤ (p : Int) := by omega
    have hi2 : (p : Int) < (l.length : Int) := by omega
    have hch := Lib.hid (chunkOwn_any o3 hlen hG x3)
    clear o2 o3 g3
    go_wp2_with fail
    refine hch.out.mono ?_
    rintro e w5 ⟨v5, rfl, o5, x5⟩
    go_wp2
    go_ret
    exact ⟨v5, rfl, o5, x3.trans x5⟩
  | node ta tb iha ihb =>
    rintro b p w ⟨_, ch, lf, rt, ⟨c0, c1, c2, c3, c4, c5, c6, c7⟩, hPV⟩ hG hok hp hb
    obtain ⟨rfl, lp, rp, rfl, rfl, hA, hB⟩ := hPV.node
    have hok : okR (.node ta tb) := by
      rcases hok with h | h
      · cases h
      · exact h
    rw [cnt_node] at hp hb
    have hA' := hA
    obtain ⟨_, _, _, _, ⟨_, _, _, _, l4, _, _, _⟩, _⟩ := hA'
    have hl := Lib.hid (node_any b lp w c1)
    clear c0 c3 c4 c5 c6 c7 hPV
    by_cases hle : p < cnt ta
    · have hca := Lib.hid (fun W (hx : Ext w W) => iha lp p W (hA.ext hx) (hG.ext hx) (.inr hok.1) hle (by omega))
      have hd : decide ((p : Int) < (cnt ta : Int)) = true := by rw [decide_eq_true_eq]; omega
      have hres : hideTr (.node ta tb) p = .node (hideTr ta p) tb := by rw [hideTr, if_pos hle]
      rw [hres]
      clear iha ihb hres
      go_enter Try.func52, Try.ntmps52
      go_wp2_with fail
      refine hl.out.mono ?_
      rintro e w1 ⟨rfl, hw1⟩
      subst hw1
      go_wp2_with fail
      refine wp_soft_frame Ext 10 (yh6Tab G b lp rp p ta) (by kernel_rfl) (by kernel_rfl) (fun _ _ _ => Ext.trans) ((Ext.refl _).drew) rfl (by show List.Nodup [28, 29, 30, 31, 32, 33, 34, 35, 36, 37]; decide) (by show ∀ d ∈ [28, 29, 30, 31, 32, 33, 34, 35, 36, 37], d < 58; decide) (yh6Tab_mono G b lp rp p ta Ext (fun _ _ h => h)) ?_ ⟨?_, ?_, ?_, ?_, ?_, ?_, ?_, ?_, ?_, ?_, trivial⟩
      · intro W vs hT hR
        match vs, hT with
        | [v0, v1, v2, v3, v4, v5, v6, v7, v8, v9], ⟨e0, e1, e2, e3, e4, e5, e6, e7, e8, e9, _⟩ =>
          simp only [yh6Tab, List.map_cons, List.map_nil, List.zip_cons_cons, List.zip_nil_left, putAll, List.setIfInBounds_toArray, List.set_cons_zero, List.set_cons_succ, List.drop_succ_cons, List.drop_zero]
          simp only at e0 e1 e2 e3 e4 e6 e7 e8 e9
          obtain ⟨q5, e5, h5⟩ := e5
          rw [e0, e1, e2, e3, e4, e5, e6, e7, e8, e9]
          clear e0 e1 e2 e3 e4 e5 e6 e7 e8 e9 v0 v1 v2 v3 v4 v5 v6 v7 v8 v9
          go_wp2_with fail
          refine (join_any h5 (hB.ext hR) (hG.ext hR) (hideTr_ok _ _ hok.1) hok.2 (by rw [hideTr_cnt]; omega)).mono ?_
          rintro e w4 ⟨v4, rfl, o4, x4⟩
          go_wp2
          go_ret
          exact ⟨v4, rfl, o4, hR.trans x4⟩
      · refine softR_val 28 _ (by kernel_rfl) rfl rfl ?_
        intro a W hx hout hdep
        have ev0 : a.tmps[0]?.getD undef = .pointer (some ⟨b, 0, none⟩) := by rw [← Array.getD_eq_getD_getElem?]; exact hout 0 (by show 0 ∉ [28, 29, 30, 31, 32, 33, 34, 35, 36, 37]; decide)
        refine ⟨rfl, .pointer (some ⟨b, 0, none⟩), W, ?_, rfl, Ext.refl _⟩
        simp [ev0, execOp, go_sem]
      · refine softR_val 29 _ (by kernel_rfl) rfl rfl ?_
        intro a W hx hout hdep
        have ev28 : a.tmps[28]?.getD undef = .pointer (some ⟨b, 0, none⟩) := by rw [← Array.getD_eq_getD_getElem?]; exact (hdep ⟨0, .data⟩ (by simp) rfl 28 _ rfl).1
        refine ⟨rfl, .pointer (some ⟨b, 0, none⟩), W, ?_, rfl, Ext.refl _⟩
        simp [ev28, execOp, go_sem]
      · refine softR_val 30 _ (by kernel_rfl) rfl rfl ?_
        intro a W hx hout hdep
        have ev29 : a.tmps[29]?.getD undef = .pointer (some ⟨b, 0, none⟩) := by rw [← Array.getD_eq_getD_getElem?]; exact (hdep ⟨1, .data⟩ (by simp) rfl 29 _ rfl).1
        refine ⟨rfl, .pointer (some ⟨b, 1, none⟩), W, ?_, rfl, Ext.refl _⟩
        simp [ev29, execOp, go_sem]
      · refine softR_val 31 _ (by kernel_rfl) rfl rfl ?_
        intro a W hx hout hdep
        have ev30 : a.tmps[30]?.getD undef = .pointer (some ⟨b, 1, none⟩) := by rw [← Array.getD_eq_getD_getElem?]; exact (hdep ⟨2, .data⟩ (by simp) rfl 30 _ rfl).1
        have q0 := hx.keep c1
        refine ⟨rfl, .pointer (some ⟨lp, 0, none⟩), W, ?_, rfl, Ext.refl _⟩
        simp [ev30, q0, execOp, go_sem]
      · refine softR_val 32 _ (by kernel_rfl) rfl rfl ?_
        intro a W hx hout hdep
        have ev1 : a.tmps[1]?.getD undef = Vi (p : Int) := by rw [← Array.getD_eq_getD_getElem?]; exact hout 1 (by show 1 ∉ [28, 29, 30, 31, 32, 33, 34, 35, 36, 37]; decide)
        refine ⟨rfl, Vi (p : Int), W, ?_, rfl, Ext.refl _⟩
        simp [ev1, execOp, go_sem]
      · refine softR_call 33 _ (by kernel_rfl) rfl rfl ?_
        intro a W hx hout hdep
        have ev31 : a.tmps[31]?.getD undef = .pointer (some ⟨lp, 0, none⟩) := by rw [← Array.getD_eq_getD_getElem?]; exact (hdep ⟨3, .data⟩ (by simp) rfl 31 _ rfl).1
        have ev32 : a.tmps[32]?.getD undef = Vi (p : Int) := by rw [← Array.getD_eq_getD_getElem?]; exact (hdep ⟨4, .data⟩ (by simp) rfl 32 _ rfl).1
        refine ⟨rfl, 52, #[.pointer (some ⟨lp, 0, none⟩), Vi (p : Int)], ?_, ?_⟩
        · simp [ev31, ev32, execOp, go_sem]
        · exact (hca.out W hx).mono (by rintro e W1 ⟨v, rfl, h1, h2⟩; exact ⟨v, rfl, h1, h2⟩)
      · refine softR_val 34 _ (by kernel_rfl) rfl rfl ?_
        intro a W hx hout hdep
        have ev0 : a.tmps[0]?.getD undef = .pointer (some ⟨b, 0, none⟩) := by rw [← Array.getD_eq_getD_getElem?]; exact hout 0 (by show 0 ∉ [28, 29, 30, 31, 32, 33, 34, 35, 36, 37]; decide)
        refine ⟨rfl, .pointer (some ⟨b, 0, none⟩), W, ?_, rfl, Ext.refl _⟩
        simp [ev0, execOp, go_sem]
      · refine softR_val 35 _ (by kernel_rfl) rfl rfl ?_
        intro a W hx hout hdep
        have ev34 : a.tmps[34]?.getD undef = .pointer (some ⟨b, 0, none⟩) := by rw [← Array.getD_eq_getD_getElem?]; exact (hdep ⟨6, .data⟩ (by simp) rfl 34 _ rfl).1
        refine ⟨rfl, .pointer (some ⟨b, 0, none⟩), W, ?_, rfl, Ext.refl _⟩
        simp [ev34, execOp, go_sem]
      · refine softR_val 36 _ (by kernel_rfl) rfl rfl ?_
        intro a W hx hout hdep
        have ev35 : a.tmps[35]?.getD undef = .pointer (some ⟨b, 0, none⟩) := by rw [← Array.getD_eq_getD_getElem?]; exact (hdep ⟨7, .data⟩ (by simp) rfl 35 _ rfl).1
        refine ⟨rfl, .pointer (some ⟨b, 2, none⟩), W, ?_, rfl, Ext.refl _⟩
        simp [ev35, execOp, go_sem]
      · refine softR_val 37 _ (by kernel_rfl) rfl rfl ?_
        intro a W hx hout hdep
        have ev36 : a.tmps[36]?.getD undef = .pointer (some ⟨b, 2, none⟩) := by rw [← Array.getD_eq_getD_getElem?]; exact (hdep ⟨8, .data⟩ (by simp) rfl 36 _ rfl).1
        have q0 := hx.keep c2
        refine ⟨rfl, .pointer (some ⟨rp, 0, none⟩), W, ?_, rfl, Ext.refl _⟩
        simp [ev36, q0, execOp, go_sem]
    · obtain ⟨m, hm⟩ : ∃ m, p - cnt ta = m := ⟨_, rfl⟩
      have hcb := Lib.hid (fun W (hx : Ext w W) => ihb rp m W (hB.ext hx) (hG.ext hx) (.inr hok.2) (by omega) (by omega))
      have hd : decide ((p : Int) < (cnt ta : Int)) = false := by rw [decide_eq_false_iff_not]; omega
      have hsub : IntKind.i64.wrap ((p : Int) - (cnt ta : Int)) = (m : Int) := by rw [show ((p : Int) - (cnt ta : Int)) = (m : Int) by omega]; exact IntWalk.i64_in _ (by omega)
      have hres : hideTr (.node ta tb) p = .node ta (hideTr tb m) := by rw [hideTr, if_neg hle, hm]
      rw [hres]
      clear iha ihb hres
      obtain ⟨na, hna⟩ : ∃ na, cnt ta = na := ⟨_, rfl⟩
      rw [hna] at hsub hd l4 hle hm hp hb
      go_enter Try.func52, Try.ntmps52
      go_wp2_with fail
      refine hl.out.mono ?_
      rintro e w1 ⟨rfl, hw1⟩
      subst hw1
      go_wp2_with fail
      refine wp_soft_frame Ext 18 (yh7Tab G b lp rp p na m tb) (by kernel_rfl) (by kernel_rfl) (fun _ _ _ => Ext.trans) ((Ext.refl _).drew) rfl (by show List.Nodup [39, 40, 41, 42, 43, 44, 45, 46, 47, 48, 49, 50, 51, 52, 53, 54, 55, 56]; decide) (by show ∀ d ∈ [39, 40, 41, 42, 43, 44, 45, 46, 47, 48, 49, 50, 51, 52, 53, 54, 55, 56], d < 58; decide) (yh7Tab_mono G b lp rp p na m tb Ext (fun _ _ h => h)) ?_ ⟨?_, ?_, ?_, ?_, ?_, ?_, ?_, ?_, ?_, ?_, ?_, ?_, ?_, ?_, ?_, ?_, ?_, ?_, trivial⟩
      · intro W vs hT hR
        match vs, hT with
        | [v0, v1, v2, v3, v4, v5, v6, v7, v8, v9, v10, v11, v12, v13, v14, v15, v16, v17], ⟨e0, e1, e2, e3, e4, e5, e6, e7, e8, e9, e10, e11, e12, e13, e14, e15, e16, e17, _⟩ =>
          simp only [yh7Tab, List.map_cons, List.map_nil, List.zip_cons_cons, List.zip_nil_left, putAll, List.setIfInBounds_toArray, List.set_cons_zero, List.set_cons_succ, List.drop_succ_cons, List.drop_zero]
          simp only at e0 e1 e2 e3 e4 e5 e6 e7 e8 e9 e10 e11 e12 e13 e14 e15 e16
          obtain ⟨q17, e17, h17⟩ := e17
          rw [e0, e1, e2, e3, e4, e5, e6, e7, e8, e9, e10, e11, e12, e13, e14, e15, e16, e17]
          clear e0 e1 e2 e3 e4 e5 e6 e7 e8 e9 e10 e11 e12 e13 e14 e15 e16 e17 v0 v1 v2 v3 v4 v5 v6 v7 v8 v9 v10 v11 v12 v13 v14 v15 v16 v17
          go_wp2_with fail
          refine (join_any (hA.ext hR) h17 (hG.ext hR) hok.1 (hideTr_ok _ _ hok.2) (by rw [hideTr_cnt]; omega)).mono ?_
          rintro e w4 ⟨v4, rfl, o4, x4⟩
          go_wp2
          go_ret
          exact ⟨v4, rfl, o4, hR.trans x4⟩
      · refine softR_val 39 _ (by kernel_rfl) rfl rfl ?_
        intro a W hx hout hdep
        have ev0 : a.tmps[0]?.getD undef = .pointer (some ⟨b, 0, none⟩) := by rw [← Array.getD_eq_getD_getElem?]; exact hout 0 (by show 0 ∉ [39, 40, 41, 42, 43, 44, 45, 46, 47, 48, 49, 50, 51, 52, 53, 54, 55, 56]; decide)
        refine ⟨rfl, .pointer (some ⟨b, 0, none⟩), W, ?_, rfl, Ext.refl _⟩
        simp [ev0, execOp, go_sem]
      · refine softR_val 40 _ (by kernel_rfl) rfl rfl ?_
        intro a W hx hout hdep
        have ev39 : a.tmps[39]?.getD undef = .pointer (some ⟨b, 0, none⟩) := by rw [← Array.getD_eq_getD_getElem?]; exact (hdep ⟨0, .data⟩ (by simp) rfl 39 _ rfl).1
        refine ⟨rfl, .pointer (some ⟨b, 0, none⟩), W, ?_, rfl, Ext.refl _⟩
        simp [ev39, execOp, go_sem]
      · refine softR_val 41 _ (by kernel_rfl) rfl rfl ?_
        intro a W hx hout hdep
        have ev40 : a.tmps[40]?.getD undef = .pointer (some ⟨b, 0, none⟩) := by rw [← Array.getD_eq_getD_getElem?]; exact (hdep ⟨1, .data⟩ (by simp) rfl 40 _ rfl).1
        refine ⟨rfl, .pointer (some ⟨b, 1, none⟩), W, ?_, rfl, Ext.refl _⟩
        simp [ev40, execOp, go_sem]
      · refine softR_val 42 _ (by kernel_rfl) rfl rfl ?_
        intro a W hx hout hdep
        have ev41 : a.tmps[41]?.getD undef = .pointer (some ⟨b, 1, none⟩) := by rw [← Array.getD_eq_getD_getElem?]; exact (hdep ⟨2, .data⟩ (by simp) rfl 41 _ rfl).1
        have q0 := hx.keep c1
        refine ⟨rfl, .pointer (some ⟨lp, 0, none⟩), W, ?_, rfl, Ext.refl _⟩
        simp [ev41, q0, execOp, go_sem]
      · refine softR_val 43 _ (by kernel_rfl) rfl rfl ?_
        intro a W hx hout hdep
        have ev0 : a.tmps[0]?.getD undef = .pointer (some ⟨b, 0, none⟩) := by rw [← Array.getD_eq_getD_getElem?]; exact hout 0 (by show 0 ∉ [39, 40, 41, 42, 43, 44, 45, 46, 47, 48, 49, 50, 51, 52, 53, 54, 55, 56]; decide)
        refine ⟨rfl, .pointer (some ⟨b, 0, none⟩), W, ?_, rfl, Ext.refl _⟩
        simp [ev0, execOp, go_sem]
      · refine softR_val 44 _ (by kernel_rfl) rfl rfl ?_
        intro a W hx hout hdep
        have ev43 : a.tmps[43]?.getD undef = .pointer (some ⟨b, 0, none⟩) := by rw [← Array.getD_eq_getD_getElem?]; exact (hdep ⟨4, .data⟩ (by simp) rfl 43 _ rfl).1
        refine ⟨rfl, .pointer (some ⟨b, 0, none⟩), W, ?_, rfl, Ext.refl _⟩
        simp [ev43, execOp, go_sem]
      · refine softR_val 45 _ (by kernel_rfl) rfl rfl ?_
        intro a W hx hout hdep
        have ev44 : a.tmps[44]?.getD undef = .pointer (some ⟨b, 0, none⟩) := by rw [← Array.getD_eq_getD_getElem?]; exact (hdep ⟨5, .data⟩ (by simp) rfl 44 _ rfl).1
        refine ⟨rfl, .pointer (some ⟨b, 2, none⟩), W, ?_, rfl, Ext.refl _⟩
        simp [ev44, execOp, go_sem]
      · refine softR_val 46 _ (by kernel_rfl) rfl rfl ?_
        intro a W hx hout hdep
        have ev45 : a.tmps[45]?.getD undef = .pointer (some ⟨b, 2, none⟩) := by rw [← Array.getD_eq_getD_getElem?]; exact (hdep ⟨6, .data⟩ (by simp) rfl 45 _ rfl).1
        have q0 := hx.keep c2
        refine ⟨rfl, .pointer (some ⟨rp, 0, none⟩), W, ?_, rfl, Ext.refl _⟩
        simp [ev45, q0, execOp, go_sem]
      · refine softR_val 47 _ (by kernel_rfl) rfl rfl ?_
        intro a W hx hout hdep
        have ev1 : a.tmps[1]?.getD undef = Vi (p : Int) := by rw [← Array.getD_eq_getD_getElem?]; exact hout 1 (by show 1 ∉ [39, 40, 41, 42, 43, 44, 45, 46, 47, 48, 49, 50, 51, 52, 53, 54, 55, 56]; decide)
        refine ⟨rfl, Vi (p : Int), W, ?_, rfl, Ext.refl _⟩
        simp [ev1, execOp, go_sem]
      · refine softR_val 48 _ (by kernel_rfl) rfl rfl ?_
        intro a W hx hout hdep
        have ev0 : a.tmps[0]?.getD undef = .pointer (some ⟨b, 0, none⟩) := by rw [← Array.getD_eq_getD_getElem?]; exact hout 0 (by show 0 ∉ [39, 40, 41, 42, 43, 44, 45, 46, 47, 48, 49, 50, 51, 52, 53, 54, 55, 56]; decide)
        refine ⟨rfl, .pointer (some ⟨b, 0, none⟩), W, ?_, rfl, Ext.refl _⟩
        simp [ev0, execOp, go_sem]
      · refine softR_val 49 _ (by kernel_rfl) rfl rfl ?_
        intro a W hx hout hdep
        have ev48 : a.tmps[48]?.getD undef = .pointer (some ⟨b, 0, none⟩) := by rw [← Array.getD_eq_getD_getElem?]; exact (hdep ⟨9, .data⟩ (by simp) rfl 48 _ rfl).1
        refine ⟨rfl, .pointer (some ⟨b, 0, none⟩), W, ?_, rfl, Ext.refl _⟩
        simp [ev48, execOp, go_sem]
      · refine softR_val 50 _ (by kernel_rfl) rfl rfl ?_
        intro a W hx hout hdep
        have ev49 : a.tmps[49]?.getD undef = .pointer (some ⟨b, 0, none⟩) := by rw [← Array.getD_eq_getD_getElem?]; exact (hdep ⟨10, .data⟩ (by simp) rfl 49 _ rfl).1
        refine ⟨rfl, .pointer (some ⟨b, 1, none⟩), W, ?_, rfl, Ext.refl _⟩
        simp [ev49, execOp, go_sem]
      · refine softR_val 51 _ (by kernel_rfl) rfl rfl ?_
        intro a W hx hout hdep
        have ev50 : a.tmps[50]?.getD undef = .pointer (some ⟨b, 1, none⟩) := by rw [← Array.getD_eq_getD_getElem?]; exact (hdep ⟨11, .data⟩ (by simp) rfl 50 _ rfl).1
        have q0 := hx.keep c1
        refine ⟨rfl, .pointer (some ⟨lp, 0, none⟩), W, ?_, rfl, Ext.refl _⟩
        simp [ev50, q0, execOp, go_sem]
      · refine softR_val 52 _ (by kernel_rfl) rfl rfl ?_
        intro a W hx hout hdep
        have ev51 : a.tmps[51]?.getD undef = .pointer (some ⟨lp, 0, none⟩) := by rw [← Array.getD_eq_getD_getElem?]; exact (hdep ⟨12, .data⟩ (by simp) rfl 51 _ rfl).1
        refine ⟨rfl, .pointer (some ⟨lp, 0, none⟩), W, ?_, rfl, Ext.refl _⟩
        simp [ev51, execOp, go_sem]
      · refine softR_val 53 _ (by kernel_rfl) rfl rfl ?_
        intro a W hx hout hdep
        have ev52 : a.tmps[52]?.getD undef = .pointer (some ⟨lp, 0, none⟩) := by rw [← Array.getD_eq_getD_getElem?]; exact (hdep ⟨13, .data⟩ (by simp) rfl 52 _ rfl).1
        refine ⟨rfl, .pointer (some ⟨lp, 4, none⟩), W, ?_, rfl, Ext.refl _⟩
        simp [ev52, execOp, go_sem]
      · refine softR_val 54 _ (by kernel_rfl) rfl rfl ?_
        intro a W hx hout hdep
        have ev53 : a.tmps[53]?.getD undef = .pointer (some ⟨lp, 4, none⟩) := by rw [← Array.getD_eq_getD_getElem?]; exact (hdep ⟨14, .data⟩ (by simp) rfl 53 _ rfl).1
        have q0 := hx.keep l4
        refine ⟨rfl, Vi (na : Int), W, ?_, rfl, Ext.refl _⟩
        simp [ev53, q0, execOp, go_sem]
      · refine softR_val 55 _ (by kernel_rfl) rfl rfl ?_
        intro a W hx hout hdep
        have ev47 : a.tmps[47]?.getD undef = Vi (p : Int) := by rw [← Array.getD_eq_getD_getElem?]; exact (hdep ⟨8, .data⟩ (by simp) rfl 47 _ rfl).1
        have ev54 : a.tmps[54]?.getD undef = Vi (na : Int) := by rw [← Array.getD_eq_getD_getElem?]; exact (hdep ⟨15, .data⟩ (by simp) rfl 54 _ rfl).1
        refine ⟨rfl, Vi (m : Int), W, ?_, rfl, Ext.refl _⟩
        simp [ev47, ev54, hsub, execOp, go_sem]
      · refine softR_call 56 _ (by kernel_rfl) rfl rfl ?_
        intro a W hx hout hdep
        have ev46 : a.tmps[46]?.getD undef = .pointer (some ⟨rp, 0, none⟩) := by rw [← Array.getD_eq_getD_getElem?]; exact (hdep ⟨7, .data⟩ (by simp) rfl 46 _ rfl).1
        have ev55 : a.tmps[55]?.getD undef = Vi (m : Int) := by rw [← Array.getD_eq_getD_getElem?]; exact (hdep ⟨16, .data⟩ (by simp) rfl 55 _ rfl).1
        refine ⟨rfl, 52, #[.pointer (some ⟨rp, 0, none⟩), Vi (m : Int)], ?_, ?_⟩
        · simp [ev46, ev55, execOp, go_sem]
        · exact (hcb.out W hx).mono (by rintro e W1 ⟨v, rfl, h1, h2⟩; exact ⟨v, rfl, h1, h2⟩)

end Go.Proofs.Ytmpomammieenjaa

namespace Go.Proofs.Ytmpomammieenjaa
open Go.ChangeShapes Go.WideShapes Go.ChangeAt Go.RowKit Go.Sort
set_option linter.unusedVariables false
set_option linter.unusedSimpArgs false
attribute [local go_sem] World.cell?_alloc_some

def Ix (F : Nat → Prop) (W : World) (v : Value) (l : List En) : Prop :=
  ∃ (t : Tr) (x : Xv), v = ixv x ∧ ents t = l ∧ (t = .leaf [] ∨ okR t) ∧ x.h = htT t ∧ x.m = cnt t ∧ x.s = shw t ∧ x.lo = loT t ∧ x.hi = hiT t ∧ PV F W t (.slice x.A x.n x.c) (.pointer x.l) (.pointer x.r) ∧ (∀ b, F b → b < W.heap.size)
theorem Ix.ext {F : Nat → Prop} {W W' : World} {v : Value} {l : List En} (h : Ix F W v l) (hx : Ext W W') : Ix F W' v l := by
  obtain ⟨t, x, h1, h2, h3, h4, h5, h6, h7, h8, h9, h10⟩ := h
  exact ⟨t, x, h1, h2, h3, h4, h5, h6, h7, h8, h9.ext hx, fun b hb => hx.lt (h10 b hb)⟩
abbrev Gb (F : Nat → Prop) (W : World) (b : Nat) : Prop := F b ∨ W.heap.size ≤ b
theorem Ix.box {F : Nat → Prop} {W : World} {v : Value} {l : List En} (h : Ix F W v l) : ∃ (t : Tr) (A : Option Addr) (n c : Nat) (lp rp : Option Addr), v = .agg #[.slice A n c, .pointer lp, .pointer rp, Vi (htT t), Vi (cnt t), Vi (shw t), Vq (loT t), Vq (hiT t)] ∧ ents t = l ∧ (t = .leaf [] ∨ okR t) ∧
    (∀ b, F b → b < W.heap.size) ∧ ∀ (G : Nat → Prop) W', (∀ b, F b → G b) → G W.heap.size → Ext (W.alloc (.cells #[.slice A n c, .pointer lp, .pointer rp, Vi (htT t), Vi (cnt t), Vi (shw t), Vq (loT t), Vq (hiT t)] 30)) W' → AtP G W' W.heap.size t := by
  obtain ⟨t, ⟨A, n, c, lp, rp, h0, m0, s0, lo0, hi0⟩, h1, h2, h3, h4, h5, h6, h7, h8, h9, h10⟩ := h
  simp only at h4 h5 h6 h7 h8 h9
  subst h4
  subst h5
  subst h6
  subst h7
  subst h8
  refine ⟨t, A, n, c, lp, rp, h1, h2, h3, h10, fun G W' hf hg hx => ?_⟩
  exact ⟨hg, _, _, _, (PtC.new W _ _ _ _ _ _ _ _ 30).ext hx, ((h9.ext (((Ext.refl W).alloc _).trans hx))).mono hf⟩

theorem roomE_run (c : Int) (W : World) (h0 : 0 ≤ c) (h1 : c ≤ 100000) : (Instr.makeSlice 24 (.int .i64 0) (.int .i64 c)).run Try.prog W = .ok (.slice (some ⟨W.heap.size, 0, none⟩) 0 c.toNat) (W.alloc (.cells (roomC (.agg #[.int .u32 0, .int .u32 0, .int .i32 0, .bool false]) (c.toNat * 4)) 79)) := by
  obtain ⟨i, hi, hz0, hz1, hz2⟩ := info_parts infoE
  exact run_room Try.underlying24 hi hz0 hz1 hz2 c W h0 (by omega) (by omega)
theorem OwnE.room {w W : World} (c : Nat) (hc : c ≤ 100000) (hx : Ext w W) : OwnE w (W.alloc (.cells (roomC (.agg #[.int .u32 0, .int .u32 0, .int .i32 0, .bool false]) (c * 4)) 79)) (.slice (some ⟨W.heap.size, 0, none⟩) 0 c) [] :=
  ⟨by simp [flat], .inr ⟨W.heap.size, c, _, rfl, hx.size, heap_alloc_new W _, Nat.zero_le _, by unfold maxLen; omega, roomC_size _ _, by simp [flat]⟩⟩

theorem st4_row {w : World} {b : Nat} {a0 a1 a2 a3 : Value} {T : TypeId} (h : w.heap[b]? = some (.cells #[a0, a1, a2, a3] T (0, 0))) (v0 v1 v2 v3 : Value) :
    ((((w.setCell ⟨b, 0, none⟩ v0).setCell ⟨b, 1, none⟩ v1).setCell ⟨b, 2, none⟩ v2).setCell ⟨b, 3, none⟩ v3).heap[b]? = some (.cells #[v0, v1, v2, v3] T (0, 0)) :=
  heap_setCell_same _ _ 3 _ _ _ (heap_setCell_same _ _ 2 _ _ _ (heap_setCell_same _ _ 1 _ _ _ (heap_setCell_same _ _ 0 _ _ _ h)))
theorem Ext.st4 {w0 w : World} {b : Nat} (h : Ext w0 w) (hb : w0.heap.size ≤ b) (v0 v1 v2 v3 : Value) :
    Ext w0 ((((w.setCell ⟨b, 0, none⟩ v0).setCell ⟨b, 1, none⟩ v1).setCell ⟨b, 2, none⟩ v2).setCell ⟨b, 3, none⟩ v3) :=
  (((h.setCell (p := ⟨b, 0, none⟩) hb v0).setCell (p := ⟨b, 1, none⟩) hb v1).setCell (p := ⟨b, 2, none⟩) hb v2).setCell (p := ⟨b, 3, none⟩) hb v3

set_option maxRecDepth 100000 in
set_option maxHeartbeats 8000000 in
theorem allO_ix {F : Nat → Prop} (W : World) (v : Value) (l : List En) (h : Ix F W v l) (hl : l.length ≤ 1000) : Calls Try.prog 24 #[v] W fun e w' => ∃ v, e = .returned v ∧ OwnE W w' v l ∧ Ext W w' := by
  obtain ⟨t, A, n, c, lp, rp, rfl, hE, hok, hFl, hbox⟩ := h.box
  have hcn : cnt t = l.length := by rw [← hE]; rfl
  have hsn : shw t = (shownE l).length := by rw [← hE]; rfl
  have hb5 : cnt t ≤ 100000 := by omega
  have hX : Ext W (W.alloc (.cells #[.slice A n c, .pointer lp, .pointer rp, Vi (htT t), Vi (cnt t), Vi (shw t), Vq (loT t), Vq (hiT t)] 30)) := (Ext.refl W).alloc _
  have hA := hbox (Gb F W) _ (fun b hb => .inl hb) (.inr (Nat.le_refl _)) (Ext.refl _)
  obtain ⟨W1, hW1⟩ : ∃ Z, W.alloc (.cells #[.slice A n c, .pointer lp, .pointer rp, Vi (htT t), Vi (cnt t), Vi (shw t), Vq (loT t), Vq (hiT t)] 30) = Z := ⟨_, rfl⟩
  obtain ⟨pb, hpb⟩ : ∃ z, W.heap.size = z := ⟨_, rfl⟩
  have hsz : W1.heap.size = pb + 1 := by rw [← hW1, ← hpb]; simp
  rw [hW1] at hA hX
  rw [hpb] at hA
  clear hbox h
  have hrun := fun W => roomE_run (cnt t : Int) W (by omega) (by omega)
  have a4 : W1.cell? ⟨pb, 4, none⟩ = some (Vi (cnt t)) := by obtain ⟨_, _, _, _, z, _⟩ := hA; exact z.c4
  rw [← hW1, ← hpb] at a4
  have hadd := addTo_any t pb (W1.alloc (.cells (roomC (.agg #[.int .u32 0, .int .u32 0, .int .i32 0, .bool false]) (cnt t * 4)) 79)) _ [] hA ((Ext.refl W1).alloc _) (OwnE.room (cnt t) hb5 (Ext.refl W1)) (by simpa using hb5)
  rw [hsz] at hadd
  replace hadd := Lib.hid hadd
  clear hA
  replace hW1 := Lib.hid hW1
  replace hpb := Lib.hid hpb
  replace hcn := Lib.hid hcn
  replace hsn := Lib.hid hsn
  go_enter Try.func24, Try.ntmps24
  go_wp2_with fail
  rw [hW1.out, hpb.out]
  refine hadd.out.mono ?_
  rintro e w3 ⟨v3, rfl, o3, x3⟩
  rw [List.nil_append, hE] at o3
  obtain ⟨A3, c3, rfl, hc3, hE3⟩ := OwnE.open o3
  replace o3 := Lib.hid (OwnE.down o3 hX)
  clear hE3
  go_wp2
  go_ret
  exact ⟨_, rfl, o3.out, hX.trans x3⟩
theorem all_ix {F : Nat → Prop} (W : World) (v : Value) (l : List En) (h : Ix F W v l) (hl : l.length ≤ 1000) : Calls Try.prog 24 #[v] W fun e w' => ∃ A c, e = .returned (.slice A l.length c) ∧ EnS w' A l ∧ Ext W w' := by
  refine (allO_ix W v l h hl).mono ?_
  rintro e w' ⟨v, rfl, o, x⟩
  obtain ⟨A3, c3, rfl, hc3, hE3⟩ := OwnE.open o
  exact ⟨A3, c3, rfl, hE3, x⟩
set_option maxRecDepth 100000 in
set_option maxHeartbeats 8000000 in
theorem len_ix {F : Nat → Prop} (W : World) (v : Value) (l : List En) (h : Ix F W v l) (hl : l.length ≤ 1000) : Calls Try.prog 84 #[v] W fun e w' => e = .returned (Vi (l.length : Int)) ∧ Ext W w' := by
  obtain ⟨t, A, n, c, lp, rp, rfl, hE, hok, hFl, hbox⟩ := h.box
  have hcn : cnt t = l.length := by rw [← hE]; rfl
  have hsn : shw t = (shownE l).length := by rw [← hE]; rfl
  have hb5 : cnt t ≤ 100000 := by omega
  have hX : Ext W (W.alloc (.cells #[.slice A n c, .pointer lp, .pointer rp, Vi (htT t), Vi (cnt t), Vi (shw t), Vq (loT t), Vq (hiT t)] 30)) := (Ext.refl W).alloc _
  have hA := hbox (Gb F W) _ (fun b hb => .inl hb) (.inr (Nat.le_refl _)) (Ext.refl _)
  obtain ⟨W1, hW1⟩ : ∃ Z, W.alloc (.cells #[.slice A n c, .pointer lp, .pointer rp, Vi (htT t), Vi (cnt t), Vi (shw t), Vq (loT t), Vq (hiT t)] 30) = Z := ⟨_, rfl⟩
  obtain ⟨pb, hpb⟩ : ∃ z, W.heap.size = z := ⟨_, rfl⟩
  have hsz : W1.heap.size = pb + 1 := by rw [← hW1, ← hpb]; simp
  rw [hW1] at hA hX
  rw [hpb] at hA
  clear hbox h
  have a4 : W1.cell? ⟨pb, 4, none⟩ = some (Vi (cnt t)) := by obtain ⟨_, _, _, _, z, _⟩ := hA; exact z.c4
  rw [← hW1, ← hpb] at a4
  clear hW1 hX hA
  replace hcn := Lib.hid hcn
  replace hsn := Lib.hid hsn
  go_enter Try.func84, Try.ntmps84
  go_wp2
  go_ret
  exact ⟨ret_i64 (by have := hcn.out; have := hsn.out; omega), (Ext.refl W).alloc _⟩
set_option maxRecDepth 100000 in
set_option maxHeartbeats 8000000 in
theorem shown_ix {F : Nat → Prop} (W : World) (v : Value) (l : List En) (h : Ix F W v l) (hl : l.length ≤ 1000) : Calls Try.prog 44 #[v] W fun e w' => e = .returned (Vi ((shownE l).length : Int)) ∧ Ext W w' := by
  obtain ⟨t, A, n, c, lp, rp, rfl, hE, hok, hFl, hbox⟩ := h.box
  have hcn : cnt t = l.length := by rw [← hE]; rfl
  have hsn : shw t = (shownE l).length := by rw [← hE]; rfl
  have hb5 : cnt t ≤ 100000 := by omega
  have hX : Ext W (W.alloc (.cells #[.slice A n c, .pointer lp, .pointer rp, Vi (htT t), Vi (cnt t), Vi (shw t), Vq (loT t), Vq (hiT t)] 30)) := (Ext.refl W).alloc _
  have hA := hbox (Gb F W) _ (fun b hb => .inl hb) (.inr (Nat.le_refl _)) (Ext.refl _)
  obtain ⟨W1, hW1⟩ : ∃ Z, W.alloc (.cells #[.slice A n c, .pointer lp, .pointer rp, Vi (htT t), Vi (cnt t), Vi (shw t), Vq (loT t), Vq (hiT t)] 30) = Z := ⟨_, rfl⟩
  obtain ⟨pb, hpb⟩ : ∃ z, W.heap.size = z := ⟨_, rfl⟩
  have hsz : W1.heap.size = pb + 1 := by rw [← hW1, ← hpb]; simp
  rw [hW1] at hA hX
  rw [hpb] at hA
  clear hbox h
  have a5 : W1.cell? ⟨pb, 5, none⟩ = some (Vi (shw t)) := by obtain ⟨_, _, _, _, z, _⟩ := hA; exact z.c5
  rw [← hW1, ← hpb] at a5
  clear hW1 hX hA
  replace hcn := Lib.hid hcn
  replace hsn := Lib.hid hsn
  go_enter Try.func44, Try.ntmps44
  go_wp2
  go_ret
  exact ⟨ret_i64 (by have := hcn.out; have := hsn.out; omega), (Ext.refl W).alloc _⟩
set_option maxRecDepth 100000 in
set_option maxHeartbeats 8000000 in
theorem entry_ix {F : Nat → Prop} (W : World) (v : Value) (l : List En) (q : Nat) (x : En) (h : Ix F W v l) (hl : l.length ≤ 1000) (hq : l[q]? = some x) : Calls Try.prog 65 #[v, Vi (q : Int)] W fun e w' => e = .returned (.tuple #[env x, .nilIface]) ∧ Ext W w' := by
  obtain ⟨t, A, n, c, lp, rp, rfl, hE, hok, hFl, hbox⟩ := h.box
  have hcn : cnt t = l.length := by rw [← hE]; rfl
  have hsn : shw t = (shownE l).length := by rw [← hE]; rfl
  have hb5 : cnt t ≤ 100000 := by omega
  have hX : Ext W (W.alloc (.cells #[.slice A n c, .pointer lp, .pointer rp, Vi (htT t), Vi (cnt t), Vi (shw t), Vq (loT t), Vq (hiT t)] 30)) := (Ext.refl W).alloc _
  have hA := hbox (Gb F W) _ (fun b hb => .inl hb) (.inr (Nat.le_refl _)) (Ext.refl _)
  obtain ⟨W1, hW1⟩ : ∃ Z, W.alloc (.cells #[.slice A n c, .pointer lp, .pointer rp, Vi (htT t), Vi (cnt t), Vi (shw t), Vq (loT t), Vq (hiT t)] 30) = Z := ⟨_, rfl⟩
  obtain ⟨pb, hpb⟩ : ∃ z, W.heap.size = z := ⟨_, rfl⟩
  have hsz : W1.heap.size = pb + 1 := by rw [← hW1, ← hpb]; simp
  rw [hW1] at hA hX
  rw [hpb] at hA
  clear hbox h
  have hlt : q < l.length := (List.getElem?_eq_some_iff.1 hq).1
  have g1 : decide ((q : Int) < 0) = false := by rw [decide_eq_false_iff_not]; omega
  have g2 : decide ((cnt t : Int) ≤ (q : Int)) = false := by rw [decide_eq_false_iff_not]; omega
  have g3 : decide (cnt t ≤ q) = false := by rw [decide_eq_false_iff_not]; omega
  have a4 : W1.cell? ⟨pb, 4, none⟩ = some (Vi (cnt t)) := by obtain ⟨_, _, _, _, z, _⟩ := hA; exact z.c4
  rw [← hW1, ← hpb] at a4
  have x2 : Ext W1 (W1.alloc (.cells #[.int .u32 0, .int .u32 0, .int .i32 0, .bool false] 79)) := (Ext.refl W1).alloc _
  have hr2 : (W1.alloc (.cells #[.int .u32 0, .int .u32 0, .int .i32 0, .bool false] 79)).heap[pb + 1]? = some (.cells #[.int .u32 0, .int .u32 0, .int .i32 0, .bool false] 79 (0, 0)) := by rw [← hsz]; exact heap_alloc_new W1 _
  obtain ⟨W2, hW2⟩ : ∃ Z, W1.alloc (.cells #[.int .u32 0, .int .u32 0, .int .i32 0, .bool false] 79) = Z := ⟨_, rfl⟩
  rw [hW2] at hr2 x2
  have hent := Lib.hid (entry_any t pb W2 q x (hA.ext x2) hb5 (by rw [hE]; exact hq))
  clear hA
  replace hW2 := Lib.hid hW2
  replace hW1 := Lib.hid hW1
  replace hpb := Lib.hid hpb
  replace hcn := Lib.hid hcn
  replace hsn := Lib.hid hsn
  go_enter Try.func65, Try.ntmps65
  go_wp2_with fail
  rw [hW1.out, hW2.out, hpb.out]
  refine hent.out.mono ?_
  rintro e w3 ⟨rfl, x3⟩
  have hr3 := (RowKit.Below.block x3 (pb + 1) (Array.getElem?_eq_some_iff.1 hr2).1).trans hr2
  have k0 := cell_of_row w3 (pb + 1) 0 _ _ _ hr3
  have k1 := cell_of_row w3 (pb + 1) 1 _ _ _ hr3
  have k2 := cell_of_row w3 (pb + 1) 2 _ _ _ hr3
  have k3 := cell_of_row w3 (pb + 1) 3 _ _ _ hr3
  have f0 := frozen_of_row w3 (pb + 1) 0 _ _ hr3
  have f1 := frozen_of_row w3 (pb + 1) 1 _ _ hr3
  have f2 := frozen_of_row w3 (pb + 1) 2 _ _ hr3
  have f3 := frozen_of_row w3 (pb + 1) 3 _ _ hr3
  have hX3 := (hX.trans x2).trans x3
  have hge : W.heap.size ≤ pb + 1 := by rw [hpb.out]; omega
  have hx4 := Ext.st4 hX3 hge (.int .u32 x.c) (.int .u32 x.k) (.int .i32 x.ch) (.bool x.g)
  have hz := st4_row hr3 (.int .u32 x.c) (.int .u32 x.k) (.int .i32 x.ch) (.bool x.g)
  go_wp2
  have z0 := cell_of_row _ (pb + 1) 0 _ _ _ hz
  have z1 := cell_of_row _ (pb + 1) 1 _ _ _ hz
  have z2 := cell_of_row _ (pb + 1) 2 _ _ _ hz
  have z3 := cell_of_row _ (pb + 1) 3 _ _ _ hz
  exact bodyPost_ret (v := .tuple #[env x, .nilIface]) (by simp [results, Try.results65, go_sem, z0, z1, z2, z3]) rfl ⟨rfl, hx4⟩
set_option maxRecDepth 100000 in
set_option maxHeartbeats 8000000 in
theorem entryNo_ix {F : Nat → Prop} (W : World) (v : Value) (l : List En) (z : Int) (h : Ix F W v l) (hl : l.length ≤ 1000) (hz : -2 ≤ z ∧ z ≤ 2000) (ho : z < 0 ∨ (l.length : Int) ≤ z) : Calls Try.prog 65 #[v, Vi z] W fun e w' => e = .returned (.tuple #[env zE, errv 3]) ∧ Ext W w' := by
  obtain ⟨t, A, n, c, lp, rp, rfl, hE, hok, hFl, hbox⟩ := h.box
  have hcn : cnt t = l.length := by rw [← hE]; rfl
  have hsn : shw t = (shownE l).length := by rw [← hE]; rfl
  have hb5 : cnt t ≤ 100000 := by omega
  have hX : Ext W (W.alloc (.cells #[.slice A n c, .pointer lp, .pointer rp, Vi (htT t), Vi (cnt t), Vi (shw t), Vq (loT t), Vq (hiT t)] 30)) := (Ext.refl W).alloc _
  have hA := hbox (Gb F W) _ (fun b hb => .inl hb) (.inr (Nat.le_refl _)) (Ext.refl _)
  obtain ⟨W1, hW1⟩ : ∃ Z, W.alloc (.cells #[.slice A n c, .pointer lp, .pointer rp, Vi (htT t), Vi (cnt t), Vi (shw t), Vq (loT t), Vq (hiT t)] 30) = Z := ⟨_, rfl⟩
  obtain ⟨pb, hpb⟩ : ∃ z, W.heap.size = z := ⟨_, rfl⟩
  have hsz : W1.heap.size = pb + 1 := by rw [← hW1, ← hpb]; simp
  rw [hW1] at hA hX
  rw [hpb] at hA
  clear hbox h
  have a4 : W1.cell? ⟨pb, 4, none⟩ = some (Vi (cnt t)) := by obtain ⟨_, _, _, _, z, _⟩ := hA; exact z.c4
  rw [← hW1, ← hpb] at a4
  have x2 : Ext W1 (W1.alloc (.cells #[.int .u32 0, .int .u32 0, .int .i32 0, .bool false] 79)) := (Ext.refl W1).alloc _
  have hX2 := hX.trans x2
  rw [← hW1] at hX2
  have g : (decide (z < 0) = true) ∨ (decide (z < 0) = false ∧ decide ((cnt t : Int) ≤ z) = true) := by
    by_cases h2 : z < 0
    · exact .inl (decide_eq_true h2)
    · exact .inr ⟨decide_eq_false h2, decide_eq_true (by omega)⟩
  clear hA hX hW1 hsz x2 hpb
  rcases g with g1 | ⟨g1, g2⟩
  · clear ho
    replace hcn := Lib.hid hcn
    replace hsn := Lib.hid hsn
    go_enter Try.func65, Try.ntmps65
    go_wp2
    exact bodyPost_ret (v := .tuple #[env zE, errv 3]) (by simp [results, Try.results65, go_sem, errv]) rfl ⟨rfl, hX2⟩
  · clear ho
    replace hcn := Lib.hid hcn
    replace hsn := Lib.hid hsn
    go_enter Try.func65, Try.ntmps65
    go_wp2
    exact bodyPost_ret (v := .tuple #[env zE, errv 3]) (by simp [results, Try.results65, go_sem, errv]) rfl ⟨rfl, hX2⟩
set_option maxRecDepth 100000 in
set_option maxHeartbeats 8000000 in
theorem at_ix {F : Nat → Prop} (W : World) (v : Value) (l : List En) (q p : Nat) (h : Ix F W v l) (hl : l.length ≤ 1000) (hq : (shownE l)[q]? = some p) : Calls Try.prog 66 #[v, Vi (q : Int)] W fun e w' => e = .returned (.tuple #[Vi (p : Int), .nilIface]) ∧ Ext W w' := by
  obtain ⟨t, A, n, c, lp, rp, rfl, hE, hok, hFl, hbox⟩ := h.box
  have hcn : cnt t = l.length := by rw [← hE]; rfl
  have hsn : shw t = (shownE l).length := by rw [← hE]; rfl
  have hb5 : cnt t ≤ 100000 := by omega
  have hX : Ext W (W.alloc (.cells #[.slice A n c, .pointer lp, .pointer rp, Vi (htT t), Vi (cnt t), Vi (shw t), Vq (loT t), Vq (hiT t)] 30)) := (Ext.refl W).alloc _
  have hA := hbox (Gb F W) _ (fun b hb => .inl hb) (.inr (Nat.le_refl _)) (Ext.refl _)
  obtain ⟨W1, hW1⟩ : ∃ Z, W.alloc (.cells #[.slice A n c, .pointer lp, .pointer rp, Vi (htT t), Vi (cnt t), Vi (shw t), Vq (loT t), Vq (hiT t)] 30) = Z := ⟨_, rfl⟩
  obtain ⟨pb, hpb⟩ : ∃ z, W.heap.size = z := ⟨_, rfl⟩
  have hsz : W1.heap.size = pb + 1 := by rw [← hW1, ← hpb]; simp
  rw [hW1] at hA hX
  rw [hpb] at hA
  clear hbox h
  have hlt : q < (shownE l).length := (List.getElem?_eq_some_iff.1 hq).1
  have hsl := shown_len l 0
  have hss : (shownE l).length = (shownG 0 l).length := rfl
  have g1 : decide ((q : Int) < 0) = false := by rw [decide_eq_false_iff_not]; omega
  have g2 : decide ((shw t : Int) ≤ (q : Int)) = false := by rw [decide_eq_false_iff_not]; omega
  have g3 : decide (shw t ≤ q) = false := by rw [decide_eq_false_iff_not]; omega
  have a5 : W1.cell? ⟨pb, 5, none⟩ = some (Vi (shw t)) := by obtain ⟨_, _, _, _, z, _⟩ := hA; exact z.c5
  rw [← hW1, ← hpb] at a5
  have hat := Lib.hid (at_any t pb W1 q p hA hb5 (by rw [hE]; exact hq))
  clear hA hss hsl
  replace hW1 := Lib.hid hW1
  replace hpb := Lib.hid hpb
  replace hcn := Lib.hid hcn
  replace hsn := Lib.hid hsn
  go_enter Try.func66, Try.ntmps66
  go_wp2_with fail
  rw [hW1.out, hpb.out]
  refine hat.out.mono ?_
  rintro e w3 ⟨rfl, x3⟩
  go_wp2
  exact bodyPost_ret (v := .tuple #[Vi p, .nilIface]) (by simp [results, Try.results66, go_sem]) rfl ⟨rfl, hX.trans x3⟩
set_option maxRecDepth 100000 in
set_option maxHeartbeats 8000000 in
theorem find_ix {F : Nat → Prop} (W : World) (v : Value) (l : List En) (c0 k0 : Int) (h : Ix F W v l) (hl : l.length ≤ 1000) : Calls Try.prog 51 #[v, idv c0 k0] W fun e w' => e = .returned (.tuple #[Vi (fndE l c0 k0), .bool (fndB l c0 k0)]) ∧ Ext W w' := by
  obtain ⟨t, A, n, c, lp, rp, rfl, hE, hok, hFl, hbox⟩ := h.box
  have hcn : cnt t = l.length := by rw [← hE]; rfl
  have hsn : shw t = (shownE l).length := by rw [← hE]; rfl
  have hb5 : cnt t ≤ 100000 := by omega
  have hX : Ext W (W.alloc (.cells #[.slice A n c, .pointer lp, .pointer rp, Vi (htT t), Vi (cnt t), Vi (shw t), Vq (loT t), Vq (hiT t)] 30)) := (Ext.refl W).alloc _
  have hA := hbox (Gb F W) _ (fun b hb => .inl hb) (.inr (Nat.le_refl _)) (Ext.refl _)
  obtain ⟨W1, hW1⟩ : ∃ Z, W.alloc (.cells #[.slice A n c, .pointer lp, .pointer rp, Vi (htT t), Vi (cnt t), Vi (shw t), Vq (loT t), Vq (hiT t)] 30) = Z := ⟨_, rfl⟩
  obtain ⟨pb, hpb⟩ : ∃ z, W.heap.size = z := ⟨_, rfl⟩
  have hsz : W1.heap.size = pb + 1 := by rw [← hW1, ← hpb]; simp
  rw [hW1] at hA hX
  rw [hpb] at hA
  clear hbox h
  have x2 : Ext W1 (W1.alloc (.cells #[.int .u32 c0, .int .u32 k0] 41)) := (Ext.refl W1).alloc _
  obtain ⟨W2, hW2⟩ : ∃ Z, W1.alloc (.cells #[.int .u32 c0, .int .u32 k0] 41) = Z := ⟨_, rfl⟩
  rw [hW2] at x2
  have hf := find_any c0 k0 t pb W2 (hA.ext x2) hb5
  rw [hE] at hf
  replace hf := Lib.hid hf
  clear hA
  replace hW2 := Lib.hid hW2
  replace hW1 := Lib.hid hW1
  replace hpb := Lib.hid hpb
  replace hcn := Lib.hid hcn
  replace hsn := Lib.hid hsn
  go_enter Try.func51, Try.ntmps51
  go_wp2_with fail
  rw [hW1.out, hW2.out, hpb.out]
  refine hf.out.mono ?_
  rintro e w3 ⟨rfl, x3⟩
  go_wp2
  exact bodyPost_ret (v := .tuple #[Vi (fndE l c0 k0), .bool (fndB l c0 k0)]) (by simp [results, Try.results51, go_sem]) rfl ⟨rfl, (hX.trans x2).trans x3⟩

end Go.Proofs.Ytmpomammieenjaa
