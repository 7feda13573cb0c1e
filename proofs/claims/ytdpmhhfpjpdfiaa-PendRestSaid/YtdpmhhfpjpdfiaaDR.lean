/-
  Several texts of this seat in one file, each in the namespace again; no claim stands here.
-/
import Derived.Lib.SliceRun
import Derived.Shelf.SlSortCmp.NoneTotal
import Derived.Deep.DeepCutAuto
import Derived.Deep.CutBlock
import Derived.RangeFuncNested
import Derived.RangeFuncBound
import Derived.RangeFuncCalls
import Derived.RangeFuncLeaves
import Derived.RangeFuncBox
import Derived.RangeFuncSeq
import Derived.Sort.MapsRangeIn
import Derived.Shelf.Abstract
import Derived.Shelf.AbstractIn
import Derived.Shelf.RegionOpen
import Derived.WalkKit
import Derived.OwnWalkIn
import Derived.TacticsInMore
import Derived.RegionIn
import Derived.LoopNIn
import Derived.LoopIn
import Derived.Maps.AppendAt
import Derived.Maps.OwnIn
import Derived.Maps.Views
import Derived.Test.YtdpmhhfpjpdfiaaDL
import Derived.Test.YtdpmhhfpjpdfiaaPdM
import Derived.Test.YtdpmhhfpjpdfiaaLayIt
import Derived.Test.YtdpmhhfpjpdfiaaDM
import Derived.Test.YtdpmhhfpjpdfiaaDP
namespace Go.Proofs.Ytdpmhhfpjpdfiaa
open Go.ChangeShapes Go.WideShapes Go.ChangeAt Go.RowKit Go.Sort
set_option linter.unusedVariables false
set_option linter.unusedSimpArgs false
set_option linter.unusedSimpArgs false
attribute [local go_sem] World.cell?_alloc_some

theorem OwnI.empty {w W : World} (hx : Ext w W) : OwnI w (W.alloc (.cells #[] 32)) (.slice (some ⟨W.heap.size, 0, none⟩) 0 0) [] :=
  ⟨rfl, .inr ⟨W.heap.size, 0, #[], rfl, hx.size, heap_alloc_new W _, Nat.le_refl _, by unfold maxLen; omega, rfl, rfl⟩⟩
set_option maxRecDepth 100000 in
set_option maxHeartbeats 4000000 in
theorem cloneI_any (A : Option Addr) (n cap : Nat) (l : List It) (w : World) (hv : ItS w A l) (hn : l.length = n) (hb : n ≤ 100000) :
    Calls Try.prog 25 #[.slice A n cap] w (RetI w l) := by
  have hq : ∀ (W : World) (a : Option Addr) (n c n' c' : Nat), (binOp .eql 23 (.slice a n c) (.slice none n' c')).run Try.prog W = .ok (.bool a.isNone) W := fun W a n c n' c' => Lib.run_eql_slice_nil W _ _ a n c n' c' Try.underlying23
  cases A with
  | none =>
    have h0 : l = [] := by
      cases l with
      | nil => rfl
      | cons x l => obtain ⟨b, o, e, _⟩ := hv (by simp [flat, encI]); cases e
    subst h0
    go_enter Try.func25, Try.ntmps25
    go_wp2
    go_ret
    exact ⟨_, rfl, OwnI.nil _ _, Ext.refl _⟩
  | some a =>
    have hx := (Ext.refl w).alloc (.cells #[] 32)
    have hv1 := hv.ext hx
    have ho := OwnI.empty (Ext.refl w)
    go_enter Try.func25, Try.ntmps25
    go_wp2_with (at_builtin; refine wpList_append_I (w0 := w) rfl (.tmp 5) (.tmp 6) rfl _ [] rfl ho hx (some a) n cap l rfl hn hv1 (by simp only [List.length_nil]; omega) ?_)
    intro v3 w3 o3 x3 g3 _
    go_wp2
    go_ret
    exact ⟨v3, rfl, o3, x3⟩

theorem cmp_grows (a b c d : Int) (w : World) : Calls Try.prog 28 #[idv a b, idv c d] w fun e w' => e = .returned (Vi (cmpId a b c d)) ∧ ∃ os, w' = grow w os := by
  by_cases h : a = c
  · subst h
    go_enter Try.func28, Try.ntmps28
    go_wp2_with (go_at_call 40; refine (compare_any _ _ _).mono ?_; rintro e w' ⟨rfl, rfl⟩)
    go_ret
    exact ⟨by simp [cmpId], _, by rw [alloc_eq_grow, alloc_eq_grow, grow_grow]⟩
  · have h' : (a != c) = true := by simpa using h
    go_enter Try.func28, Try.ntmps28
    go_wp2_with (go_at_call 40; refine (compare_any _ _ _).mono ?_; rintro e w' ⟨rfl, rfl⟩)
    go_ret
    exact ⟨by simp [cmpId, h], _, by rw [alloc_eq_grow, alloc_eq_grow, grow_grow]⟩

def cmpX (x y : It) : Int := cmpId x.c x.k y.c y.k
theorem cmpX_lt (x y : It) : decide (cmpX x y < 0) = ltI (iid x) (iid y) := by
  unfold cmpX cmpId cmpI ltI iid
  rw [Bool.eq_iff_iff, decide_eq_true_eq, decide_eq_true_eq]
  simp only
  (repeat' split) <;> omega
theorem cmpX_swo : SWO (ltOf cmpX) where
  irrefl x := by unfold ltOf; rw [cmpX_lt]; simp [ltI]
  trans x y z h1 h2 := by
    unfold ltOf at h1 h2 ⊢
    rw [cmpX_lt] at h1 h2 ⊢
    unfold ltI iid at h1 h2 ⊢
    rw [decide_eq_true_eq] at h1 h2 ⊢
    simp only at h1 h2 ⊢
    omega
  ntrans x y z h1 h2 := by
    unfold ltOf at h1 h2 ⊢
    rw [cmpX_lt] at h1 h2 ⊢
    unfold ltI iid at h1 h2 ⊢
    rw [decide_eq_false_iff_not] at h1 h2 ⊢
    simp only at h1 h2 ⊢
    omega
set_option maxRecDepth 100000 in
set_option maxHeartbeats 1000000 in
theorem cmpX_grows (x y : It) (w : World) : Calls Try.prog 27 #[itv x, itv y] w fun e w' => e = .returned (Vi (cmpX x y)) ∧ ∃ q os', w' = grow (w.drewN q) os' := by
  obtain ⟨r, hr⟩ : ∃ r, cmpX x y = r := ⟨_, rfl⟩
  rw [hr]
  have hc := Lib.hid (fun W => cmp_grows x.c x.k y.c y.k W)
  have hcr : cmpId x.c x.k y.c y.k = r := hr
  rw [hcr] at hc
  clear hr hcr
  go_enter Try.func27, Try.ntmps27
  go_wp2_with fail
  refine (hc.out _).mono ?_
  rintro e w2 ⟨rfl, os, rfl⟩
  go_wp2_with fail
  go_ret
  exact ⟨rfl, 0, _, by rw [alloc_eq_grow, alloc_eq_grow, grow_grow, grow_grow]; rfl⟩

instance : Inhabited It := ⟨⟨0, 0, 0, 0, 0, 0, 0⟩⟩
theorem flatI_flat (d : Array It) (j : Nat) (hj : j < d.size * 7) : (flat encI d.toList)[j]? = some (flatK encI 7 d)[j]! := by
  have h1 : j / 7 < d.size := by omega
  have h2 : d.toList[j / 7]? = some d[j / 7]! := by
    rw [Array.getElem?_toList, getElem!_pos d (j / 7) h1]; exact Array.getElem?_eq_getElem h1
  have e : j = j / 7 * 7 + j % 7 := by omega
  rw [get_flatK _ _ _ _ hj]
  conv => lhs; rw [e]
  rw [flat_at encI_len h2 (by omega)]
  have h3 : j % 7 < (encI d[j / 7]!).length := by rw [encI_len]; omega
  rw [getElem!_pos (encI d[j / 7]!) (j % 7) h3]; exact List.getElem?_eq_getElem h3
theorem flatI_list (d : Array It) : (flatK encI 7 d).toList = flat encI d.toList := by
  apply List.ext_getElem?
  intro j
  by_cases hj : j < d.size * 7
  · rw [flatI_flat d j hj, Array.getElem?_toList, getElem!_pos _ j (by simpa using hj)]
    exact Array.getElem?_eq_getElem _
  · rw [List.getElem?_eq_none (by simpa using hj), List.getElem?_eq_none (by rw [flat_len encI_len]; simpa using hj)]
theorem take_putAny (d : Array Value) (c : Array Value) (h : d.size ≤ c.size) : (putCells id 0 d c).toList.take d.size = d.toList := by
  apply List.ext_getElem?
  intro j
  rw [List.getElem?_take]
  by_cases hj : j < d.size
  · rw [if_pos hj, Array.getElem?_toList, Array.getElem?_toList]
    simp only [putCells, Array.getElem?_mapIdx]
    rw [Array.getElem?_eq_getElem (show j < c.size by omega), Array.getElem?_eq_getElem hj]
    simp [hj]
  · rw [if_neg hj, Array.getElem?_toList, Array.getElem?_eq_none (by omega)]
theorem holds_ownI {w : World} {base g cap : Nat} {r : List It} (h : w.ownsRow base 32 7 (.slice (some ⟨g, 0, none⟩) r.length cap) r.length (flat encI r)) : HoldsK encI 7 w g 0 r.toArray := by
  intro j hj
  have hj' : j < r.length * 7 := by simpa using hj
  have h1 := h.cellAt j hj'
  have h2 := flatI_flat r.toArray j (by simpa using hj')
  rw [Nat.zero_add]
  refine ⟨?_, h.frozenAt j⟩
  rw [h1]; exact h2
theorem OwnI.sorted {w0 w : World} {g cap : Nat} {l : List It} (h : OwnI w0 w (.slice (some ⟨g, 0, none⟩) l.length cap) l) (q : Nat) (d : Array It) (os : Array Obj) (hd : d.size = l.length) : OwnI w0 (sortWorldK encI 7 w g 0 q d os) (.slice (some ⟨g, 0, none⟩) l.length cap) d.toList := by
  rcases h.2 with ⟨h0, _⟩ | ⟨g', cap', cur, e, hbase, hgb, r1, r2, r3, r4⟩
  · cases h0
  · injection e with e1 e2 e3
    injection e1 with e1
    injection e1 with e1
    subst e1
    subst e3
    have hg1 : g < w.heap.size := (Array.getElem?_eq_some_iff.1 hgb).1
    have hb : (sortWorldK encI 7 w g 0 q d os).heap[g]? = some (.cells (putCells id 0 (flatK encI 7 d) cur) 32 (0, 0)) := by
      unfold sortWorldK putRowK
      rw [heap_grow_old _ _ (by rw [size_putRow]; exact hg1)]
      simp [putRow, mapBlock, Sort.ahead, Array.getElem?_modify, hgb, onCells]
    have hln : d.toList.length = l.length := by simpa using hd
    refine ⟨by rw [hln, flat_len encI_len, hln], .inr ⟨g, cap, _, by rw [hln], hbase, hb, by rw [hln]; exact r1, r2, by simp [putCells, r3], ?_⟩⟩
    have := take_putAny (flatK encI 7 d) cur (by rw [size_flatK, r3, hd]; omega)
    rw [size_flatK, hd] at this
    rw [hln, this, flatI_list]
theorem tsb_sorted (w : World) (g q : Nat) (d : Array It) (os : Array Obj) : TSb (fun b => b = g) w (sortWorldK encI 7 w g 0 q d os) := by
  have h1 : TSb (fun b => b = g) w (putRowK encI 7 (Sort.ahead w q) g 0 d) := by
    refine ⟨rfl, rfl, rfl, ?_, fun k hk hn => ?_⟩
    · unfold putRowK; rw [size_putRow]; exact Nat.le_refl _
    · unfold putRowK putRow mapBlock
      show (w.heap.modify g _)[k]? = w.heap[k]?
      rw [Array.getElem?_modify, if_neg (fun e => hn e.symm)]
  exact h1.trans (TSb.ext (S := fun b => b = g) (Ext.regrown _ _ os)) (fun _ _ e => e)

theorem sortI_any (w0 w : World) (v : Value) (l : List It) (h : OwnI w0 w v l) (hb : l.length ≤ 1000) :
    Calls Try.prog 26 #[v, .func (.func 27) #[] #[]] w fun e w' =>
      e = .returned (.tuple #[]) ∧ ∃ l' : List It, l'.Perm l ∧ l'.Pairwise (fun s t => ltI (iid t) (iid s) = false) ∧ OwnI w0 w' v l' ∧ TSb (fun b => v.ownBlock = some b) w w' := by
  obtain ⟨A, c, rfl, hc, _⟩ := h.open
  cases l with
  | nil =>
    refine (AnyF.slices_SortFunc_none Try.sortIt A c _ w).mono ?_
    rintro e w' ⟨he, rfl⟩
    exact ⟨he, [], .refl _, .nil, h, TSb.refl _ _⟩
  | cons x r =>
    obtain ⟨g, rfl⟩ : ∃ g, A = some ⟨g, 0, none⟩ := by
      rcases h.2 with ⟨h0, _⟩ | ⟨g', cap', cur, e, _⟩
      · cases h0
      · injection e with e1 e2 e3
        exact ⟨g', e1⟩
    have hg : g < w.heap.size := (OwnI.lt h g rfl).2
    generalize x :: r = l at *
    have eg : ∀ args w, (callFunc 27 args).run Try.prog w = .ok (.enter 27 args) w := enters_of Try.func27 (by kernel_rfl) rfl
    have hH := holds_ownI h
    have hcmp : CmpLays Try.prog 27 #[] encI 7 cmpX g 0 l.toArray.size w := fun _ _ _ _ x y => cmpX_grows x y _
    have hcon := AnyQ.slices_SortFunc Try.sortIt 7 Try.isAgg32 Try.sizeOf32 encI encI_len encI_one cmpX cmpX_swo 27 #[] g 0 c l.toArray w eg hcmp hH hg (by simp; omega)
    refine Calls.mono hcon ?_
    rintro e w' ⟨he, d', n, os, hp, hs, hw⟩
    subst hw
    have hsz : d'.size = l.length := by have := hp.1; simpa using this
    refine ⟨he, d'.toList, ?_, ?_, OwnI.sorted h n d' os hsz, tsb_mono (tsb_sorted w g n d' os) (fun j _ e => by rw [e]; rfl)⟩
    · have := hp.2.2
      have e : List.take d'.size l = l := List.take_of_length_le (by omega)
      simpa [← hsz, e] using this
    · rw [List.pairwise_iff_getElem]
      intro i j hi hj hij
      have := hs i j (Nat.zero_le _) hij (by simpa [← hsz] using hj)
      unfold ltOf at this
      rw [cmpX_lt] at this
      rw [getElem!_pos d' j (by simpa using hj), getElem!_pos d' i (by simpa using hi)] at this
      simpa using this

end Go.Proofs.Ytdpmhhfpjpdfiaa

namespace Go.Proofs.Ytdpmhhfpjpdfiaa
open Go.ChangeShapes Go.WideShapes Go.ChangeAt Go.RowKit Go.Sort Go.Maps
set_option linter.unusedVariables false
set_option linter.unusedSimpArgs false
set_option linter.unusedSimpArgs false

structure NewAt (w : World) (A : Option Addr) (n cap m : Nat) (L : List It) (T bS bW : Nat) (vX vC : Value) (wx : World) : Prop where
  ext : Ext w wx
  tb : wx.heap[T]? = some (.cells #[.slice A n cap, .map (some bS), vX, vC, .slice none 0 0, .slice none 0 0, .map (some bW)] 55 (0, 0))
  sS : wx.heap[bS]? = some (.map #[] 0)
  sW : wx.heap[bW]? = some (.map #[] 0)
  ne : bS ≠ bW
  lS : w.heap.size ≤ bS
  lW : w.heap.size ≤ bW
  lT : w.heap.size ≤ T
  its : OwnI w wx vX L
  came : ∃ q, vC = .slice (some ⟨q, 0, none⟩) m m ∧ w.heap.size ≤ q ∧ wx.heap[q]? = some (.cells (madeCells #[.bool false] m) 4 (0, 0))
theorem heap_drew (W : World) : W.drew.heap = W.heap := rfl
theorem size_one (W : World) (o : Obj) : (W.alloc o).heap.size = W.heap.size + 1 := by simp
theorem heap_one (W : World) (o : Obj) (k : Nat) : (W.alloc o).heap[k]? = if k = W.heap.size then some o else W.heap[k]? := by
  by_cases h : k = W.heap.size
  · subst h
    rw [if_pos rfl]
    exact heap_alloc_new W o
  · rw [if_neg h]
    rcases Nat.lt_or_ge k W.heap.size with h1 | h1
    · exact RowKit.Below.block ((Ext.refl W).alloc o) k h1
    · rw [Array.getElem?_eq_none h1, Array.getElem?_eq_none (by rw [size_one]; omega)]
theorem newAt_of {w w3 W9 : World} {A : Option Addr} {n cap m : Nat} {L : List It} {T bS bW : Nat} {vX vC : Value} (h9 : Ext w3 W9) (k : Ext w3 W9 → NewAt w A n cap m L T bS bW vX vC W9) : NewAt w A n cap m L T bS bW vX vC W9 := k h9

end Go.Proofs.Ytdpmhhfpjpdfiaa

namespace Go.Proofs.Ytdpmhhfpjpdfiaa
open Go.ChangeShapes Go.WideShapes Go.ChangeAt Go.RowKit Go.Sort Go.Maps
set_option linter.unusedVariables false
set_option linter.unusedSimpArgs false
set_option linter.unusedSimpArgs false

theorem FlB (m : Nat) : (madeCells #[.bool false] m).toList = (List.replicate m false).map Value.bool := by
  simp [madeCells, Nat.mod_one, List.map_const']
theorem flags_made (m : Nat) : (madeCells #[.bool false] m).toList.take (m * 1) = (List.replicate m false).map Value.bool := by
  have h := FlB m
  rw [Nat.mul_one, List.take_of_length_le (by simp [madeCells])]
  exact h
theorem NewAt.state {w : World} {A : Option Addr} {n cap m : Nat} {L : List It} {T bS bW : Nat} {vX vC : Value} {wx : World} (h : NewAt w A n cap m L T bS bW vX vC wx) {V : List (Int × Int)} (hv : Vec w A V) {wy : World} {L' : List It} (hI : OwnI w wy vX L')
    (ht : TSb (fun b => vX.ownBlock = some b) wx wy) (hb : m ≤ 100000) :
    ∃ g, TkS w wy T A n cap V V L' (List.replicate m false) [] [] g ∧ g.Wt = [] ∧ g.vX = vX := by
  obtain ⟨q, eC, hq, hqb⟩ := h.came
  subst eC
  have hX : ∀ b, vX.ownBlock = some b → ∃ cur, wx.heap[b]? = some (.cells cur 32 (0, 0)) := by
    intro b hb
    rcases h.its.2 with ⟨e, _⟩ | ⟨g, cap, cur, e, _, hgb, _⟩
    · rw [e] at hb; cases hb
    · rw [e] at hb
      injection hb with hb
      subst hb
      exact ⟨cur, hgb⟩
  have nTS : bS ≠ T := fun e => by have h1 := h.tb; rw [← e, h.sS] at h1; cases h1
  have nTW : bW ≠ T := fun e => by have h1 := h.tb; rw [← e, h.sW] at h1; cases h1
  have nXT : ∀ b, vX.ownBlock = some b → b ≠ T ∧ b ≠ bS ∧ b ≠ bW ∧ b ≠ q := fun b hb => by
    obtain ⟨cur, hc⟩ := hX b hb
    refine ⟨fun e => ?_, fun e => ?_, fun e => ?_, fun e => ?_⟩
    · rw [e, h.tb] at hc
      injection hc with hc
      injection hc with _ hc
      exact absurd hc (by decide)
    · rw [e, h.sS] at hc; cases hc
    · rw [e, h.sW] at hc; cases hc
    · rw [e, hqb] at hc
      injection hc with hc
      injection hc with _ hc
      exact absurd hc (by decide)
  have nqT : q ≠ T := fun e => by
    have h1 := h.tb
    rw [← e, hqb] at h1
    injection h1 with h1
    injection h1 with _ h1
    exact absurd h1 (by decide)
  have nqS : q ≠ bS := fun e => by have h1 := h.sS; rw [← e, hqb] at h1; cases h1
  have nqW : q ≠ bW := fun e => by have h1 := h.sW; rw [← e, hqb] at h1; cases h1
  have hMU : MapU wx bS 0 (.map []) := by
    obtain ⟨es, clock, hb1, F, hs, hD⟩ := World.ownsMap_made w Try.prog 28 (plainElem (H := Unit) Try.prog 28)
    rw [heap_alloc_new] at hb1
    injection hb1 with hb1
    injection hb1 with e1 e2
    subst e1 e2
    exact ⟨#[], 0, h.sS, F, hs, hD⟩
  let g : TkV := ⟨bS, bW, vX, .slice (some ⟨q, 0, none⟩) m m, .slice none 0 0, .slice none 0 0, [], fun b => if b = T then .t else if b = bS then .s else if b = bW then .m else if vX.ownBlock = some b then .x else .c⟩
  have hgX : ∀ b, vX.ownBlock = some b → g.tg b = .x := fun b hb => by
    obtain ⟨h1, h2, h3, _⟩ := nXT b hb
    show (if b = T then Tg.t else if b = bS then .s else if b = bW then .m else if vX.ownBlock = some b then .x else .c) = .x
    rw [if_neg h1, if_neg h2, if_neg h3, if_pos hb]
  have h0 : TkS w wx T A n cap V V L (List.replicate m false) [] [] g := {
    tb := h.tb, vec := hv, kn := ⟨0, .map [], Nat.le_refl _, hMU, mapV_start V⟩, its := h.its,
    came := ⟨by simp, .inr ⟨q, m, _, by simp [g], hq, hqb, by simp, by unfold maxLen; omega, by simp [madeCells], by rw [List.length_replicate]; exact flags_made m⟩⟩,
    come := OwnI.nil _ _, ready := OwnZ.nil _ _, wm := ⟨#[], 0, h.sW, rfl, List.Pairwise.nil, by simp⟩, wl := fun t ht => (by cases ht), keys := List.nodup_nil, low := h.ext,
    gT := if_pos rfl,
    gS := (by show (if bS = T then Tg.t else if bS = bS then .s else if bS = bW then .m else if vX.ownBlock = some bS then .x else .c) = .s; rw [if_neg nTS, if_pos rfl]),
    gM := (by show (if bW = T then Tg.t else if bW = bS then .s else if bW = bW then .m else if vX.ownBlock = some bW then .x else .c) = .m; rw [if_neg nTW, if_neg (fun e => h.ne e.symm), if_pos rfl]),
    gX := hgX,
    gC := fun b hb => (by
      injection hb with hb
      subst hb
      show (if q = T then Tg.t else if q = bS then .s else if q = bW then .m else if vX.ownBlock = some q then .x else .c) = .c
      rw [if_neg nqT, if_neg nqS, if_neg nqW, if_neg (fun e => (nXT q e).2.2.2 rfl)]),
    go := fun b hb => (by cases hb), gr := fun b hb => (by cases hb), gw := fun t ht => (by cases ht), bT := h.lT, bbS := h.lS, bbW := h.lW }
  have hS : ∀ b, vX.ownBlock = some b → g.tg b = .x := hgX
  refine ⟨g, { h0 with tb := h0.tbT ht (fun b hb e => ?_), kn := h0.knT ht (fun b hb e => ?_), its := hI, came := h0.cameT ht (fun b hb e => ?_), come := h0.comeT ht (fun b hb e => ?_), ready := h0.readyT ht (fun b hb e => ?_), wm := h0.wmT ht (fun b hb e => ?_), wl := h0.wlT ht (fun b hb a e => ?_), low := h0.lowT ht (fun b hb => (OwnI.lt h.its b hb).1) }, rfl, rfl⟩
  all_goals (rw [hS b hb] at e; cases e)

def rngI (j : Nat) : List Int := (List.range j).map fun i : Nat => (i : Int)
theorem rng_succ (j : Nat) : rngI (j + 1) = rngI j ++ [(j : Int)] := by unfold rngI; rw [List.range_succ, List.map_append]; rfl
theorem rng_mem {j : Nat} {k : Int} (h : k ∈ rngI j) : ∃ i : Nat, k = i ∧ i < j := by
  obtain ⟨i, h1, h2⟩ := List.mem_map.1 h
  exact ⟨i, h2.symm, List.mem_range.1 h1⟩
theorem nci_all : ∀ (m k : Nat), nci k (List.replicate m false) = (List.range m).map fun i : Nat => ((k + i : Nat) : Int)
  | 0, k => rfl
  | m + 1, k => by
    rw [List.replicate_succ, nci, if_neg (by simp), nci_all m (k + 1), List.range_succ_eq_map, List.map_cons, List.map_map]
    congr 1
    refine List.map_congr_left fun i _ => ?_
    simp only [Function.comp]
    omega
theorem ncs_all : ∀ (L : List It), ncs (List.replicate L.length false) L = L
  | [] => rfl
  | x :: L => by
    rw [List.length_cons, List.replicate_succ, ncs, if_neg (by simp), ncs_all L]
theorem tInv_start {V : List (Int × Int)} {Xs : List It} (hm : mayFrom 0 V = true) (h : ∀ x ∈ Xs, okW x ∧ nextOf V x.c ≤ x.k) : TInv V Xs (List.replicate Xs.length false) (askAll V Xs (rngI Xs.length) ([], [])).1 (askAll V Xs (rngI Xs.length) ([], [])).2 := by
  obtain ⟨h1, h2⟩ := WInv.all (V := V) (Xs := Xs) (rngI Xs.length) (s := ([], [])) (WInv.none V Xs) (fun k hk => by
    obtain ⟨i, rfl, hi⟩ := rng_mem hk
    have hx := h Xs[i] (List.getElem_mem hi)
    have := hx.1.2.2.2
    exact ⟨Xs[i], by rw [Int.toNat_natCast]; exact List.getElem?_eq_getElem hi, next_nonneg _ hm, hx.2, by omega⟩)
  refine ⟨h1, by simp, ?_, fun i x _ hx => (h x (List.mem_of_getElem? hx)).2, hm⟩
  rw [nci_all]
  have e : (List.range Xs.length).map (fun i : Nat => ((0 + i : Nat) : Int)) = rngI Xs.length := by
    unfold rngI
    refine List.map_congr_left fun i _ => ?_
    omega
  rw [e]
  simpa [flaP] using h2
theorem sorted_is {L L' : List It} (ha : apartI L) (hp : L'.Perm L) (hr : L'.Pairwise fun s t => ltI (iid t) (iid s) = false) : L' = sortI [] L := by
  have ha' := apart_perm hp.symm ha
  have hrise : riseI L' := (hr.and ha').imp fun {s t} h => by
    obtain ⟨h1, h2⟩ := h
    unfold ltI at h1 ⊢
    rw [decide_eq_false_iff_not] at h1
    rw [decide_eq_true_eq]
    by_cases e1 : (iid s).1 = (iid t).1
    · by_cases e2 : (iid s).2 = (iid t).2
      · exact absurd (Prod.ext e1 e2) h2
      · omega
    · omega
  refine rise_ext hrise (sort_rise .nil (by simpa using ha)) fun x => ?_
  rw [(sort_perm L []).mem_iff, hp.mem_iff]
  simp

end Go.Proofs.Ytdpmhhfpjpdfiaa

namespace Go.Proofs.Ytdpmhhfpjpdfiaa
open Go.ChangeShapes Go.WideShapes Go.ChangeAt Go.RowKit Go.Sort Go.Maps
set_option linter.unusedVariables false
set_option linter.unusedSimpArgs false
set_option linter.unusedSimpArgs false
attribute [local go_sem] World.cell?_alloc_some

theorem info_bool : (Try.prog.info? 4).map (fun i => (i.zero, i.size, i.bytes)) = some (some (.bool false), 1, 1) := by kernel_rfl
theorem make_bools (c : Int) (n : Nat) (hc : c = n) (hn : n ≤ 100000) (W : World) : (Instr.makeSlice 50 (.int .i64 c) (.int .i64 c)).run Try.prog W = .ok (.slice (some ⟨W.heap.size, 0, none⟩) n n) (W.alloc (.cells (madeCells #[.bool false] n) 4)) := by
  subst hc
  obtain ⟨i, hi, hz0, hz1, hz2⟩ := info_parts info_bool
  have hr := run_make (P := Try.prog) W 50 4 i _ Try.underlying50 hi hz0 .i64 .i64 (n : Int) (n : Int) (by omega) (by omega) (by rw [hz2]; omega) (by omega)
  rw [hz1, Nat.mul_one] at hr
  exact hr

def NewRel (w : World) (T : Nat) (A : Option Addr) (n cap m : Nat) (V : List (Int × Int)) (Xs : List It) (vi : Value) (wr : World) : Prop :=
  ∃ (j : Nat) (g : TkV) (hs : List Int), j ≤ m ∧ vi = .int .i64 (j : Nat) ∧ Hid (TkS w wr T A n cap V V Xs (List.replicate m false) [] hs g) ∧ Hid ((plW g.Wt, hs) = askAll V Xs (rngI j) ([], [])) ∧ Hid (hs.length + sumP (plW g.Wt) = j)
def NewTk (w : World) (A : Option Addr) (n cap : Nat) (V : List (Int × Int)) (Xs : List It) (e : Ending) (w' : World) : Prop :=
  ∃ (T : Nat) (g : TkV) (hs : List Int), e = .returned (.pointer (some ⟨T, 0, none⟩)) ∧ TkS w w' T A n cap V V Xs (List.replicate Xs.length false) [] hs g ∧ (plW g.Wt, hs) = askAll V Xs (rngI Xs.length) ([], [])

set_option maxRecDepth 100000 in
set_option maxHeartbeats 40000000 in
theorem newT_any (A B : Option Addr) (n cap m capm : Nat) (V : List (Int × Int)) (L : List It) (w : World) (hv : Vec w A V) (hn : V.length = n) (hn1 : n ≤ 1000) (hmV : mayFrom 0 V = true) (hL : ItS w B L) (hm : L.length = m) (hb : m ≤ 1000) (hap : apartI L) (hwf : ∀ x ∈ L, wfI x) :
    Calls Try.prog 17 #[.slice A n cap, .slice B m capm] w (NewTk w A n cap V (sortI [] L)) := by
  have hcl := Lib.hid (fun (W : World) (hx : Ext w W) => cloneI_any B m capm L W (hL.ext hx) hm (by omega))
  have hm1 := fun W : World => run_makeMap (P := Try.prog) 44 W
  have hm2 := fun W : World => run_makeMap (P := Try.prog) 53 W
  have hmk := make_bools (m : Int) m rfl (by omega)
  replace hm := Lib.hid hm
  replace hn := Lib.hid hn
  replace hv := Lib.hid hv
  replace hL := Lib.hid hL
  replace hap := Lib.hid hap
  replace hwf := Lib.hid hwf
  go_enter Try.func17, Try.ntmps17
  go_upto_region 1 with fail
  go_cut [5, 8, 11, 14, 15] (fun s a b c d wx => ∃ T bS bW, s = .pointer (some ⟨T, 0, none⟩) ∧ a = .map (some bS) ∧ d = .map (some bW) ∧ Hid (NewAt w A n cap m L T bS bW b c wx))
  case first =>
    clear hap hwf hv hn
    go_region_with (go_at_call 25; refine (hcl.out _ ?_).mono ?_; (first | exact ((Ext.refl w).drew) | exact (((Ext.refl w).alloc _).drew) | exact ((((Ext.refl w).alloc _).alloc _).drew) | exact (((((Ext.refl w).alloc _).alloc _).alloc _).drew)); rintro e w3 ⟨v3, rfl, o3, x3⟩; obtain ⟨A3, c3, rfl, hc3, _⟩ := o3.open; have s3 := x3.size; simp at s3)
    all_goals
      go_wp2_with fail
      go_meet
      refine ⟨_, _, _, rfl, rfl, rfl, Lib.hid (newAt_of (w3 := w3) ?_ (fun hx9 => ?_))⟩
      · (repeat (first | exact Ext.refl _ | (with_reducible refine Ext.drew ?_) | (with_reducible refine Ext.alloc ?_ _)))
      · have y1 := Ext.trans (a := w) (by (repeat (first | exact Ext.refl _ | (with_reducible refine Ext.drew ?_) | (with_reducible refine Ext.alloc ?_ _)))) x3
        have y1s := y1.size
        exact ⟨y1.trans hx9, (by (first | (simp only [heap_drew, heap_one, size_one, if_true]; (repeat (rw [if_neg (by omega)]; try simp only [if_true])); done) | exact (RowKit.Below.block hx9 _ (by first | omega | (simp; omega))).trans ((RowKit.Below.block x3 _ (by simp only [heap_drew, size_one]; omega)).trans (by simp only [heap_drew, heap_one, size_one, if_true]; (repeat (rw [if_neg (by omega)]; try simp only [if_true])))))), (by (first | (simp only [heap_drew, heap_one, size_one, if_true]; (repeat (rw [if_neg (by omega)]; try simp only [if_true])); done) | exact (RowKit.Below.block hx9 _ (by first | omega | (simp; omega))).trans ((RowKit.Below.block x3 _ (by simp only [heap_drew, size_one]; omega)).trans (by simp only [heap_drew, heap_one, size_one, if_true]; (repeat (rw [if_neg (by omega)]; try simp only [if_true])))))), (by (first | (simp only [heap_drew, heap_one, size_one, if_true]; (repeat (rw [if_neg (by omega)]; try simp only [if_true])); done) | exact (RowKit.Below.block hx9 _ (by first | omega | (simp; omega))).trans ((RowKit.Below.block x3 _ (by simp only [heap_drew, size_one]; omega)).trans (by simp only [heap_drew, heap_one, size_one, if_true]; (repeat (rw [if_neg (by omega)]; try simp only [if_true])))))), (by omega), (by omega), (by omega), (by omega), (OwnI.down o3 (by (repeat (first | exact Ext.refl _ | (with_reducible refine Ext.drew ?_) | (with_reducible refine Ext.alloc ?_ _))))).ext hx9, ⟨_, rfl, (by omega), (by (first | (simp only [heap_drew, heap_one, size_one, if_true]; (repeat (rw [if_neg (by omega)]; try simp only [if_true])); done) | exact (RowKit.Below.block hx9 _ (by first | omega | (simp; omega))).trans ((RowKit.Below.block x3 _ (by simp only [heap_drew, size_one]; omega)).trans (by simp only [heap_drew, heap_one, size_one, if_true]; (repeat (rw [if_neg (by omega)]; try simp only [if_true]))))))⟩⟩
  case rest =>
    obtain ⟨T, bS, bW, rfl, rfl, rfl, hnew⟩ := hcut
    have hTB : TB wc T #[.slice A n cap, .map (some bS), u11, u14, .slice none 0 0, .slice none 0 0, .map (some bW)] := hnew.out.tb
    have t2 : wc.cell? ⟨T, 2, none⟩ = some u11 := hTB.cell rfl
    have hsort := Lib.hid (sortI_any w wc _ L hnew.out.its (by have := hm.out; omega))
    have hnx : u11.ownBlock ≠ some T := fun e => by
      rcases hnew.out.its.2 with ⟨e2, _⟩ | ⟨g9, cap9, cur, e2, _, hgb, _⟩
      · rw [e2] at e; cases e
      · rw [e2] at e
        injection e with e
        have h1 := hnew.out.tb
        rw [← e, hgb] at h1
        injection h1 with h1
        injection h1 with _ h1
        exact absurd h1 (by decide)
    obtain ⟨AX, cX, eX, _, _⟩ := hnew.out.its.open
    rw [hm.out] at eX
    subst eX
    clear hcl hm1 hm2 hmk
    go_wp2_with fail
    refine hsort.out.mono ?_
    rintro e w2 ⟨rfl, L', hp, hr, hI, ht⟩
    obtain ⟨g0, hg, hgW, hgX⟩ := hnew.out.state hv.out hI ht (by omega)
    have hXs := sorted_is hap.out hp hr
    subst hXs
    obtain ⟨Xs, hXe⟩ : ∃ Xs, sortI [] L = Xs := ⟨_, rfl⟩
    rw [hXe] at hg hp
    replace hXe := Lib.hid hXe
    have hXl : Xs.length = m := by rw [hp.length_eq]; exact hm.out
    have hwfX : ∀ x ∈ Xs, wfI x := fun x hx => hwf.out x (hp.mem_iff.1 hx)
    have t2' : w2.cell? ⟨T, 2, none⟩ = some (.slice AX m cX) := by rw [← hgX]; exact hg.tb.cell rfl
    have hst : Hid (NewRel w T A n cap m V Xs (.int .i64 0) w2) := Lib.hid ⟨0, g0, [], Nat.zero_le _, rfl, Lib.hid hg, Lib.hid (by rw [hgW]; rfl), Lib.hid (by rw [hgW]; rfl)⟩
    replace hwfX := Lib.hid hwfX
    replace hXl := Lib.hid hXl
    clear hg hgW hgX hI ht hr hsort hnew hTB hp hwf hap t2
    go_wp2_with fail
    go_loopw [28] (NewRel w T A n cap m V Xs) (fun vi _ => m - (intOf vi).toNat)
    case atStart => exact hst.out
    case round =>
      clear hst
      obtain ⟨j, g, hs, hjm, rfl, hTk, hpl, htj⟩ := hrel
      by_cases hlt : j < m
      · obtain ⟨x, hx⟩ : ∃ x, Xs[j]? = some x := ⟨Xs[j]'(by rw [hXl.out]; exact hlt), List.getElem?_eq_getElem _⟩
        have hsm : ∀ t ∈ g.Wt, t.2.2.length ≤ 1000 := fun t ht => by
          have h1 : t.2.2.length ≤ sumP (plW g.Wt) := sumP_mem (p := plW g.Wt) (t := (t.1, t.2.2)) (List.mem_map.2 ⟨t, ht, rfl⟩)
          have := htj.out
          omega
        have hask := Lib.hid (ask_any w wr T A n cap V V Xs (List.replicate m false) [] hs g j x hTk.out hn.out hmV hn1 hx (by rw [hXl.out]; exact hb) (hwfX.out x (List.mem_of_getElem? hx)) (by have := htj.out; omega) hsm)
        have hsn := Lib.hid (askAll_snoc V Xs (rngI j) (j : Int) ([], []) x (by rw [Int.toNat_natCast]; exact hx))
        have htt := Lib.hid (ask_tot V x (j : Int) (p := plW g.Wt) hs (by rw [plW_keys]; exact hTk.out.keys))
        have hltH := Lib.hid hlt
        have hj0 : (0 : Int) ≤ (j : Int) := by omega
        have hj1 : (j : Int) < (m : Int) := by omega
        have hj2 : (j : Int) < 1000 := by omega
        clear hsm hx
        go_wp2_with fail
        refine hask.out.mono ?_
        rintro e w' ⟨rfl, g', hs', hT', ha', hp'⟩
        replace hT' := Lib.hid hT'
        replace hp' := Lib.hid hp'
        clear ha'
        go_wp2
        go_roundw
        case rel =>
          refine ⟨j + 1, g', hs', hltH.out, by go_num, hT', Lib.hid ?_, Lib.hid ?_⟩
          · rw [rng_succ, hsn.out, ← hpl.out]; exact hp'.out
          · have h9 := htt.out
            rw [← hp'.out] at h9
            have h8 := htj.out
            have h9' : hs'.length + sumP (plW g'.Wt) = hs.length + sumP (plW g.Wt) + 1 := h9
            omega
        case measure => have := hltH.out; simp [intOf]; omega
      · have hje : j = m := by omega
        subst hje
        go_wp2_with fail
        go_ret
        refine ⟨T, g, hs, rfl, ?_, ?_⟩
        · rw [hXe.out, hXl.out]; exact hTk.out
        · rw [hXe.out, hXl.out]; exact hpl.out

end Go.Proofs.Ytdpmhhfpjpdfiaa

namespace Go.Proofs.Ytdpmhhfpjpdfiaa
open Go.ChangeShapes Go.WideShapes Go.ChangeAt Go.RowKit Go.Sort Go.Maps Go.Shelf
set_option linter.unusedVariables false
set_option linter.unusedSimpArgs false
attribute [local go_sem] Oper.semAt_some

def CollU (D0 : DataW Unit) (left : Lit → Bool) (ss : List Int) : Prop := ss.Nodup ∧ ∀ x, x ∈ ss ↔ (has D0 (.int .u32 x) = true ∧ left (.int .u32 x) = false)
theorem CollU.start (D0 : DataW Unit) : CollU D0 (has D0) [] := ⟨List.nodup_nil, fun x => by cases has D0 (.int .u32 x) <;> simp⟩
theorem CollU.step {D0 : DataW Unit} {left : Lit → Bool} {ss : List Int} (h : CollU D0 left ss) {x : Int} {y : DataW Unit} (hlk : left (.int .u32 x) = true) (hat : ∀ zd, D0.atKey (.int .u32 x) zd = y) : CollU D0 (fun z => left z && !z.sameKey (.int .u32 x)) (ss ++ [x]) := by
  have hhas : has D0 (.int .u32 x) = true := has_true_of_atKey hat
  have hnew : x ∉ ss := fun hx => by have := ((h.2 x).1 hx).2; rw [hlk] at this; cases this
  refine ⟨List.nodup_append.2 ⟨h.1, by simp, fun a ha b hb => by simp at hb; subst hb; exact fun e => hnew (e ▸ ha)⟩, fun y => ?_⟩
  by_cases hy : y = x
  · subst hy; simp [hhas, Lit.sameKey]
  · simp [h.2 y, hy, Lit.sameKey]

set_option maxRecDepth 100000 in
set_option maxHeartbeats 2000000 in
theorem keysIt_u (F : Fence) (n : Nat) (hF : F.fn 46) (hro : F.round = none) (hn : 1 ≤ n) (l Bm b nn : Nat) (D0 : DataW Unit) (J Jx : List Int → World → Prop)
    (hY : ∀ pre x W, J pre W → pre.length < Maps.size D0 → YieldAt F (n - 1) Try.prog l #[Vu x] W fun e W' =>
      (e = .returned (.bool true) ∧ J (pre ++ [x]) W' ∧ KeepsWalks W W') ∨ (e = .returned (.bool false) ∧ Jx (pre ++ [x]) W'))
    (W : World) (hJ : AbidesFrom W.heap.size J) (hm : W.cell? ⟨Bm, 0, none⟩ = some (.map (some b))) (hown : MapU W b nn D0) (h0 : J [] W) :
    CallsIn F n Try.prog 46 #[.func (.yield l) #[] #[], .pointer (some ⟨Bm, 0, none⟩)] W fun e W' => (∃ v, e = .returned v) ∧
      ((∃ ss : List Int, (ss.Nodup ∧ ∀ x, x ∈ ss ↔ has D0 (.int .u32 x) = true) ∧ J ss W') ∨ (∃ pre : List Int, (pre.Nodup ∧ ∀ x ∈ pre, has D0 (.int .u32 x) = true) ∧ Jx pre W')) := by
  refine callsIn_of_wp Try.func46 rfl hF ?_ hro
  simp only [Try.ntmps46, List.size_toArray, List.length_cons, List.length_nil, Nat.reduceAdd, Nat.reduceSub, Array.replicate_succ, Array.replicate_zero, List.push_toArray, List.append_toArray, List.nil_append, List.cons_append]
  gi_wp2_with (first
    | (gi_at_range; refine wpListIn_range_own _ rfl _ 44 rfl 28 28 keyedU Try.underlying44 _ b nn _ rfl hown ?_; intro w0 hrg0 hg0 hs0)
    | gi_in)
  go_frame
  gi_loopw [3] (fun _ wr => ∃ (left : Lit → Bool) (cnt : Nat) (ss : List Int), wr.ranges Try.prog 28 (plainElem (H := Unit) Try.prog 28) b W.heap.size nn D0 left cnt ∧ ss.length + cnt ≤ Maps.size D0 ∧ CollU D0 left ss ∧ J ss wr)
    (fun _ wr => wr.rangeLeft b W.heap.size)
  case atStart => exact ⟨_, _, [], hrg0, by simp, CollU.start D0, hJ [] W w0 none h0 hg0 (fun r e => by cases e)⟩
  case round =>
    obtain ⟨left, cnt, ss, hrg, hcs, hC, hJs⟩ := hrel
    gi_wp2_with (first
      | (gi_at_next; refine wpListIn_next_ranges _ rfl _ rfl 28 keyedU (plainElem (H := Unit) Try.prog 28) (Value.int .u32) id (fun key kl hk => by obtain ⟨x, hx, _⟩ := Maps.keyOf_int_inv Try.underlying28 hk; exact ⟨x, hx⟩) (fun v _ _ => ⟨v, rfl⟩) b W.heap.size nn _ _ _ rfl hrg ?_ ?_)
      | gi_in)
    · intro hc0 hl0
      gi_wp2
      go_end0
      exact ⟨⟨_, rfl⟩, .inl ⟨ss, ⟨hC.1, fun x => by rw [hC.2 x, hl0]; simp⟩, hJs⟩⟩
    · intro x c kl yd yp w2 cnt2 hkey hlk hv hat hrg2 hlt hg2 hs2 hen
      obtain ⟨x', ex, rfl, _⟩ := Maps.keyOf_int_inv Try.underlying28 hkey
      obtain rfl : x = x' := by simpa using ex
      have hJ2 : J ss w2 := hJ ss wr w2 (some W.heap.size) hJs hg2 (fun r e => by cases e; exact ⟨Nat.le_refl _, hrg.iter_walk⟩)
      obtain ⟨fn, tmps, assign, body, hy, hR⟩ := hY ss x w2 hJ2 (by omega)
      clear hs2
      gi_wp2
      refine hR.mono ?_
      have hC2 := hC.step hlk hat
      rintro e W3 (⟨rfl, hJ3, hk3⟩ | ⟨rfl, hJx3⟩)
      · gi_wp2
        have hrg3 := hrg2.of_walks hk3
        go_roundw
        case rel => exact ⟨_, cnt2, ss ++ [x], hrg3, by simp; omega, hC2, hJ3⟩
        case measure => rw [hrg3.left_eq, hrg.left_eq]; exact hlt
      · gi_wp2
        refine bodyPost_ret (results_none rfl _ _ _) rfl ?_
        exact ⟨⟨_, rfl⟩, .inr ⟨ss ++ [x], ⟨hC2.1, fun y hy => ((hC2.2 y).1 hy).1⟩, hJx3⟩⟩

theorem keysSt_u (F : Fence) (n : Nat) (hF : F.fn 46) (hro : F.round = none) (hn : 1 ≤ n) (Bm b nn : Nat) (D0 : DataW Unit) (w : World) (hBm : Bm < w.heap.size)
    (hm : w.cell? ⟨Bm, 0, none⟩ = some (.map (some b))) (hown : MapU w b nn D0) :
    SeqStopsK F n Try.prog 46 #[.pointer (some ⟨Bm, 0, none⟩)] (fun x : Int => #[Vu x]) KeepsWalks (fun ss => ss.Nodup ∧ ∀ x, x ∈ ss ↔ has D0 (.int .u32 x) = true) (fun pre => pre.Nodup ∧ ∀ x ∈ pre, has D0 (.int .u32 x) = true) (Maps.size D0) w := fun l J Jx W hW hJ _ hY h0 => by
  have hown' : MapU W b nn D0 := by
    have hbl := hown.lt
    obtain ⟨es, clock, hb, Ft, hs, hD⟩ := hown
    exact ⟨es, clock, (hW.block b hbl).trans hb, Ft, hs, hD⟩
  exact keysIt_u F n hF hro hn l Bm b nn D0 J Jx hY W hJ ((hW.cell (p := ⟨Bm, 0, none⟩) hBm).trans hm) hown' h0

theorem keys_u (mb : Option Nat) (w : World) : Calls Try.prog 33 #[.map mb] w fun e w' => e = .returned (.func (.func 46) #[] #[.pointer (some ⟨w.heap.size, 0, none⟩)]) ∧ w' = w.alloc (.cells #[.map mb] 44) := by
  go_enter Try.func33, Try.ntmps33
  go_wp2
  go_ret
  exact ⟨rfl, rfl⟩

theorem infoU : (Try.prog.info? 28).map (fun i => (i.zero, i.size, i.bytes)) = some (some (.int .u32 0), 1, 4) := by kernel_rfl

set_option maxRecDepth 100000 in
set_option maxHeartbeats 2000000 in
theorem appendSeq_u (F : Fence) (n : Nat) (hF : F.fn 61) (hF2 : F.fn 46) (hro : F.round = none) (hn : 3 ≤ n) (Bm b nn : Nat) (D0 : DataW Unit) (hsz : Maps.size D0 ≤ 1000000) (w : World) (hBm : Bm < w.heap.size)
    (hm : w.cell? ⟨Bm, 0, none⟩ = some (.map (some b))) (hown : MapU w b nn D0) :
    CallsIn F n Try.prog 61 #[.slice none 0 0, .func (.func 46) #[] #[.pointer (some ⟨Bm, 0, none⟩)]] w fun e W' => ∃ (v : Value) (ss : List Int), e = .returned v ∧ (ss.Nodup ∧ ∀ x, x ∈ ss ↔ has D0 (.int .u32 x) = true) ∧ ss.length ≤ Maps.size D0 ∧
      W'.ownsRow w.heap.size 28 1 v ss.length (ss.map (Value.int .u32)) ∧ (v = .slice none 0 0 ↔ ss = []) ∧ Below w.heap.size w W' := by
  have h1 : 1 ≤ n := by omega
  obtain ⟨i0, hi, hz0, hz1, hz2⟩ := info_parts infoU
  refine callsIn_of_wp_marks Try.func61 rfl hF ?_ hro
  simp only [Try.ntmps61, List.size_toArray, List.length_cons, List.length_nil, Nat.reduceAdd, Nat.reduceSub, Array.replicate_succ, Array.replicate_zero, List.push_toArray, List.append_toArray, List.nil_append, List.cons_append]
  gi_wp2
  have bO := Boxed.new w 69 (.slice none 0 0)
  have hB0 : Below w.heap.size w (w.alloc (.cells #[.slice none 0 0] 69)) := (Below.refl _ w).alloc (Nat.le_refl _) _
  have hm0 : (w.alloc (.cells #[.slice none 0 0] 69)).cell? ⟨Bm, 0, none⟩ = some (.map (some b)) := (hB0.cell (p := ⟨Bm, 0, none⟩) hBm).trans hm
  refine wpIn_rangeFunc_ownG hro h1 (gf := 46) (lb := #[.pointer (some ⟨Bm, 0, none⟩)]) rfl hF2 (enters_of Try.func46 (by kernel_rfl) rfl)
    (keysSt_u F (n - 1) hF2 hro (by omega) Bm b nn D0 _ (by simp; omega) hm0 (hown.alloc _)) walksK_t walksK_b (Below.refl _ _) (fun _ => rfl)
    (fun pre W => (pre.length ≤ Maps.size D0 ∧ ∃ v, Boxed W w.heap.size 69 v ∧ W.ownsRow w.heap.size 28 1 v pre.length (pre.map (Value.int .u32)) ∧ (v = .slice none 0 0 ↔ pre = [])) ∧ Below w.heap.size w W)
    (fun _ _ _ => False)
    (OwnFrom.and (fun s A B row hs hg hr => ⟨hs.1, (Own.from (holdsRow_own w.heap.size w.heap.size 69 28 1 (fun pre : List Int => pre.length) (fun pre => pre.map (Value.int .u32)) (fun pre v => v = .slice none 0 0 ↔ pre = [])) _) s A B row hs.2 hg hr⟩) (ownFrom_below (Nat.le_refl _) (by simp)))
    (fun _ _ _ _ _ hs _ _ => hs)
    ⟨⟨by simp, _, bO, World.ownsRow_nil _ _ _ _, by simp⟩, hB0⟩
    (fun x => { tmps := #[.slice none 0 0, .func (.func 46) #[] #[.pointer (some ⟨Bm, 0, none⟩)], .pointer (some ⟨w.heap.size, 0, none⟩), undef, .slice none 0 0, Vu x, .func (.func 46) #[] #[.pointer (some ⟨Bm, 0, none⟩)], Vu x, undef, undef, undef, undef, undef], defers := [] }) ?assign ?body ?done ?stop
  case assign =>
    intro l x W K hK
    gi_wp2
    exact hK
  case body =>
    rintro l pre x W ⟨⟨hlen, v, hv, hrow, hnil⟩, hB⟩ hlt
    have hc := hv.cell
    gi_wp2_with (gi_at_builtin; refine wpListIn_append_own _ rfl _ _ 69 rfl w.heap.size 28 i0 (.int .u32 0) 1 4 Try.underlying69 hi hz0 hz1 hz2 rfl (by decide) _ _ _ rfl (hrow.alloc _) ⟨W.heap.size, 0, none⟩ 1 1 [.int .u32 x] rfl rfl (cell_one_new _ _ _) (by simp [Value.oneCell']) (by simp [maxLen]; omega) (by omega) (by have := hB.size; simp; omega) ?_; intro v' w1 hown' hgrow _; obtain ⟨g', cap', rfl⟩ := ownsRow_succ hown'; obtain ⟨hv1, hv2, hr2, hk2, hb2⟩ := hv.appended (by decide) hrow hB.size (Nat.le_refl _) hown' hgrow; have hc1 := hv1.cell; have hf1 := hv1.frozen)
    exact ⟨hk2.from _, hk2.walks, ⟨by simp; omega, _, hv2, by simpa using hr2, by simp⟩, hB.trans hb2⟩
  case done =>
    rintro D ys W hD hS ⟨⟨hlen, v, hv, hrow, hnil⟩, hB⟩ hK
    have hc := hv.cell
    gi_wp2
    refine ⟨by simp, .inl ⟨_, _, rfl, run_takeDeferred hK, ?_⟩⟩
    exact ⟨_, results_tmp rfl _ _ _, v, ys, rfl, hS, hlen, ownsRow_putObj hrow _ hK rfl, hnil, hB.trans (belowK_b (w := w) (Nat.le_refl _) W D _ _ (by simp at hD; omega) hK rfl rfl)⟩
  case stop =>
    rintro D c pre W _ _ h _
    exact h.elim

end Go.Proofs.Ytdpmhhfpjpdfiaa

namespace Go.Proofs.Ytdpmhhfpjpdfiaa
open Go.ChangeShapes Go.WideShapes Go.ChangeAt Go.RowKit Go.Sort
set_option linter.unusedVariables false
set_option linter.unusedSimpArgs false

set_option maxRecDepth 100000 in
set_option maxHeartbeats 2000000 in
theorem reverse_u (w0 : World) (blk off cap a b N : Nat) (d : Array Int) (w : World) (R : RoU w0 blk off N) (S : SWu w0 blk off N d w) (hab : a < b) (hb : b ≤ N) (hsz : N ≤ 1000000) :
    Calls Try.prog 74 #[.slice (some ⟨blk, off, none⟩) N cap, .int .i64 a, .int .i64 b] w fun e w' => e = .returned (.tuple #[]) ∧ SWu w0 blk off N (reverseRange d a b) w' := by
  replace S := Lib.hid S
  go_enter Try.func74, Try.ntmps74
  go_wp2
  go_loopw [6, 7] (fun vi vj wr => ∃ (i j : Nat) (dk : Array Int), vi = .int .i64 i ∧ vj = .int .i64 j ∧ i ≤ j + 2 ∧ i ≤ N ∧ j < N ∧ Hid (SWu w0 blk off N dk wr) ∧ Hid (reverseLoop i j dk = reverseLoop a (b - 1) d)) (fun vi _ _ => N - (intOf vi).toNat)
  case atStart => exact ⟨a, b - 1, d, by go_num, by congr 1; omega, by omega, by omega, by omega, S, Lib.hid rfl⟩
  case round =>
    clear S
    obtain ⟨i, j, dk, rfl, rfl, hij, hi, hj, S1, HO⟩ := hrel
    obtain ⟨G, HG, hcw, hfw⟩ := R.fam S1.out
    by_cases hlt : i < j
    · go_wp2_with fail
      go_region
      all_goals go_wp2
      go_roundw
      case rel =>
        refine ⟨i + 1, j - 1, swp dk i j, by go_num, by congr 1; omega, by omega, by omega, by omega, ?_, ?_⟩
        · exact Lib.hid (S1.out.swapd R HG _ i j (by omega) (by omega))
        · exact Lib.hid (by rw [← HO.out]; conv => rhs; rw [reverseLoop, if_pos hlt])
      case measure => simp [intOf]; omega
    · go_wp2
      go_end0
      exact ⟨rfl, by unfold reverseRange; rw [← HO.out, reverseLoop, if_neg hlt]; exact S1.out⟩

set_option maxRecDepth 100000 in
set_option maxHeartbeats 4000000 in
theorem siftDown_u (w0 : World) (blk off cap lo hi first N : Nat) (d : Array Int) (w : World) (R : RoU w0 blk off N) (S : SWu w0 blk off N d w) (hlo : lo ≤ hi) (hb : first + hi ≤ N) (hsz : N ≤ 1000000) :
    Calls Try.prog 80 #[.slice (some ⟨blk, off, none⟩) N cap, .int .i64 lo, .int .i64 hi, .int .i64 first] w fun e w' => e = .returned (.tuple #[]) ∧ SWu w0 blk off N (siftDown ltInt hi first lo d) w' := by
  replace S := Lib.hid S
  go_enter Try.func80, Try.ntmps80
  go_wp2
  go_loopw [8] (fun s8 wr => ∃ (root : Nat) (dk : Array Int), s8 = .int .i64 root ∧ root ≤ hi ∧ Hid (SWu w0 blk off N dk wr) ∧ Hid (siftDown ltInt hi first root dk = siftDown ltInt hi first lo d)) (fun s8 _ => hi - (intOf s8).toNat)
  case atStart => exact ⟨lo, d, rfl, hlo, S, Lib.hid rfl⟩
  case round =>
    clear S
    obtain ⟨root, dk, rfl, hr, S1, HE⟩ := hrel
    obtain ⟨G, HG, hcw, hfw⟩ := R.fam S1.out
    by_cases h0 : hi ≤ 2 * root + 1
    · go_wp2
      go_end0
      exact ⟨rfl, by rw [← HE.out, sd_end ltInt dk h0]; exact S1.out⟩
    · have h0z : ¬ ((hi : Int) ≤ 2 * (root : Int) + 1) := by omega
      by_cases h1 : 2 * root + 2 < hi
      · have h1z : 2 * (root : Int) + 1 + 1 < (hi : Int) := by omega
        go_wp2_with fail
        go_big_quiet (first | (go_at_call 76; refine less_q _ _ _ _))
        go_wp2_with fail
        · have hL : ltInt dk[first + (2 * root + 1)]! dk[first + (2 * root + 2)]! = true := by rw [← HG.out, ← HG.out]; assumption
          have S2 := Lib.hid (S1.out.drewN nq)
          clear S1 hcw hfw
          clear HG
          generalize wr.drewN nq = wr2 at S2 ⊢
          clear nq
          obtain ⟨G, HG, hcw, hfw⟩ := R.fam S2.out
          go_big_quiet (first | (go_at_call 76; refine less_q _ _ _ _))
          go_wp2_with fail
          · have hS : ltInt dk[first + root]! dk[first + (2 * root + 2)]! = false := by
              have : (!ltInt (G (first + root)) (G (first + (2 * root + 2)))) = true := by assumption
              rw [← HG.out, ← HG.out]; simpa using this
            (try simp only [Exit.inBlock, Exit.then]); refine bodyPost_ret (results_none rfl _ _ _) rfl ?_
            exact ⟨rfl, by rw [← HE.out, sd_right_stop ltInt dk h1 hL hS]; exact S2.out.drewN _⟩
          · have hG : ltInt dk[first + root]! dk[first + (2 * root + 2)]! = true := by
              have : (!ltInt (G (first + root)) (G (first + (2 * root + 2)))) = false := by assumption
              rw [← HG.out, ← HG.out]; simpa using this
            have S3 := Lib.hid (S2.out.drewN nq)
            clear S2 hcw hfw
            clear HG
            generalize wr2.drewN nq = wr3 at S3 ⊢
            clear nq
            obtain ⟨G, HG, hcw, hfw⟩ := R.fam S3.out
            go_region
            all_goals go_wp2
            go_roundw
            case rel => exact ⟨2 * root + 2, swp dk (first + root) (first + (2 * root + 2)), by congr 1 <;> omega, by omega, Lib.hid (SWu.swapd R S3.out HG _ (first + root) (first + (2 * root + 2)) (by omega) (by omega)), Lib.hid (by rw [← HE.out, sd_right_go ltInt dk h1 hL hG])⟩
            case measure => simp [intOf]; omega
        · have hL : ltInt dk[first + (2 * root + 1)]! dk[first + (2 * root + 2)]! = false := by rw [← HG.out, ← HG.out]; assumption
          have S2 := Lib.hid (S1.out.drewN nq)
          clear S1 hcw hfw
          clear HG
          generalize wr.drewN nq = wr2 at S2 ⊢
          clear nq
          obtain ⟨G, HG, hcw, hfw⟩ := R.fam S2.out
          go_big_quiet (first | (go_at_call 76; refine less_q _ _ _ _))
          go_wp2_with fail
          · have hS : ltInt dk[first + root]! dk[first + (2 * root + 1)]! = false := by
              have : (!ltInt (G (first + root)) (G (first + (2 * root + 1)))) = true := by assumption
              rw [← HG.out, ← HG.out]; simpa using this
            (try simp only [Exit.inBlock, Exit.then]); refine bodyPost_ret (results_none rfl _ _ _) rfl ?_
            exact ⟨rfl, by rw [← HE.out, sd_left_stop ltInt dk (by omega) (fun _ => hL) hS]; exact S2.out.drewN _⟩
          · have hG : ltInt dk[first + root]! dk[first + (2 * root + 1)]! = true := by
              have : (!ltInt (G (first + root)) (G (first + (2 * root + 1)))) = false := by assumption
              rw [← HG.out, ← HG.out]; simpa using this
            have S3 := Lib.hid (S2.out.drewN nq)
            clear S2 hcw hfw
            clear HG
            generalize wr2.drewN nq = wr3 at S3 ⊢
            clear nq
            obtain ⟨G, HG, hcw, hfw⟩ := R.fam S3.out
            go_region
            all_goals go_wp2
            go_roundw
            case rel => exact ⟨2 * root + 1, swp dk (first + root) (first + (2 * root + 1)), by congr 1 <;> omega, by omega, Lib.hid (SWu.swapd R S3.out HG _ (first + root) (first + (2 * root + 1)) (by omega) (by omega)), Lib.hid (by rw [← HE.out, sd_left_go ltInt dk (by omega) (fun _ => hL) hG])⟩
            case measure => simp [intOf]; omega
      · have h1z : ¬ (2 * (root : Int) + 1 + 1 < (hi : Int)) := by omega
        have h1d : decide (2 * (root : Int) + 1 + 1 < (hi : Int)) = false := decide_eq_false h1z
        go_wp2_with fail
        go_big_quiet (first | (go_at_call 76; refine less_q _ _ _ _))
        go_wp2_with fail
        have S2 := Lib.hid (S1.out.drewN nq)
        clear S1 hcw hfw
        clear HG
        generalize wr.drewN nq = wr2 at S2 ⊢
        clear nq
        obtain ⟨G, HG, hcw, hfw⟩ := R.fam S2.out
        go_big_quiet (first | (go_at_call 76; refine less_q _ _ _ _))
        go_wp2_with fail
        · have hS : ltInt dk[first + root]! dk[first + (2 * root + 1)]! = false := by
            have : (!ltInt (G (first + root)) (G (first + (2 * root + 1)))) = true := by assumption
            rw [← HG.out, ← HG.out]; simpa using this
          (try simp only [Exit.inBlock, Exit.then]); refine bodyPost_ret (results_none rfl _ _ _) rfl ?_
          exact ⟨rfl, by rw [← HE.out, sd_left_stop ltInt dk (by omega) (fun h => absurd h h1) hS]; exact S2.out.drewN _⟩
        · have hG : ltInt dk[first + root]! dk[first + (2 * root + 1)]! = true := by
            have : (!ltInt (G (first + root)) (G (first + (2 * root + 1)))) = false := by assumption
            rw [← HG.out, ← HG.out]; simpa using this
          have S3 := Lib.hid (S2.out.drewN nq)
          clear S2 hcw hfw
          clear HG
          generalize wr2.drewN nq = wr3 at S3 ⊢
          clear nq
          obtain ⟨G, HG, hcw, hfw⟩ := R.fam S3.out
          go_region
          all_goals go_wp2
          go_roundw
          case rel => exact ⟨2 * root + 1, swp dk (first + root) (first + (2 * root + 1)), by congr 1 <;> omega, by omega, Lib.hid (SWu.swapd R S3.out HG _ (first + root) (first + (2 * root + 1)) (by omega) (by omega)), Lib.hid (by rw [← HE.out, sd_left_go ltInt dk (by omega) (fun h => absurd h h1) hG])⟩
          case measure => simp [intOf]; omega

end Go.Proofs.Ytdpmhhfpjpdfiaa

namespace Go.Proofs.Ytdpmhhfpjpdfiaa
open Go.ChangeShapes Go.WideShapes Go.ChangeAt Go.RowKit Go.Sort
set_option linter.unusedVariables false
set_option linter.unusedSimpArgs false

set_option maxRecDepth 100000 in
set_option maxHeartbeats 4000000 in
theorem heapSortZ_u (w0 : World) (blk off cap a n N : Nat) (z : Int) (d : Array Int) (w : World) (R : RoU w0 blk off N) (S : SWu w0 blk off N d w) (hz : z - (a : Int) = (n : Int)) (hn1 : 1 ≤ n) (hb : a + n ≤ N) (hsz : N ≤ 1000000) :
    Calls Try.prog 71 #[.slice (some ⟨blk, off, none⟩) N cap, .int .i64 a, .int .i64 z] w fun e w' => e = .returned (.tuple #[]) ∧ SWu w0 blk off N (heapPop ltInt a n (heapBuild ltInt n a ((n - 1) / 2 + 1) d)) w' := by
  replace S := Lib.hid S
  have q1 : ((n : Int) - 1) / 2 = (((n - 1) / 2 + 1 : Nat) : Int) - 1 := by omega
  replace q1 := Lib.hid q1
  obtain ⟨m, hm⟩ : ∃ m, m = (n - 1) / 2 + 1 := ⟨_, rfl⟩
  have hmn : m ≤ n := by omega
  rw [← hm] at q1 ⊢
  clear hm
  go_enter Try.func71, Try.ntmps71
  go_wp2
  go_loopw [9] (fun vi wr => ∃ (k : Nat) (dk : Array Int), vi = .int .i64 ((k : Int) - 1) ∧ k ≤ n ∧ Hid (SWu w0 blk off N dk wr) ∧ Hid (heapBuild ltInt n a k dk = heapBuild ltInt n a m d)) (fun vi _ => (intOf vi + 1).toNat)
  case atStart => exact ⟨m, d, by rw [q1.out], by omega, S, Lib.hid rfl⟩
  case round =>
    clear S
    obtain ⟨k, dk, rfl, hk, S1, HO⟩ := hrel
    cases k with
    | zero =>
      have HB := Lib.hid (show dk = heapBuild ltInt n a m d by rw [← HO.out]; rfl)
      clear HO
      rw [show ((0 : Nat) : Int) - 1 = -1 from rfl]
      go_wp2_with fail
      go_loopw [10] (fun vi wr2 => ∃ (k : Nat) (dk : Array Int), vi = .int .i64 ((k : Int) - 1) ∧ k ≤ n ∧ Hid (SWu w0 blk off N dk wr2) ∧ Hid (heapPop ltInt a k dk = heapPop ltInt a n (heapBuild ltInt n a m d))) (fun vi _ => (intOf vi + 1).toNat)
      case atStart => exact ⟨n, dk, by rfl, Nat.le_refl _, S1, Lib.hid (by rw [HB.out])⟩
      case round =>
        clear S1 HB
        clear dk
        obtain ⟨k, dk, rfl, hk, S1, HO⟩ := hrel
        cases k with
        | zero =>
          go_wp2
          go_end0
          exact ⟨rfl, by rw [← HO.out]; exact S1.out⟩
        | succ k =>
          have zk : ((k + 1 : Nat) : Int) - 1 = (k : Int) := by omega
          rw [zk]
          obtain ⟨G, HG, hcw, hfw⟩ := R.fam S1.out
          obtain ⟨u, hc2⟩ := fam_c2 hcw a (a + k) (.int .u32 (G (a + k))) (by omega) (by omega)
          have zb0 : (0 : Int) ≤ (a : Int) + (k : Int) := by omega
          go_wp2_with fail
          go_region
          all_goals go_wp2_with fail
          refine (siftDown_u w0 blk off cap 0 k a N (swp dk a (a + k)) _ R (SWu.swapD R S1.out HG a (a + k) (by omega) (by omega)) (by omega) (by omega) hsz).mono ?_
          rintro e w1 ⟨rfl, S2⟩
          replace S2 := Lib.hid S2
          clear S1 hcw hfw hc2
          clear HG
          go_wp2
          go_roundw
          case rel => exact ⟨k, siftDown ltInt k a 0 (swp dk a (a + k)), by rfl, by omega, S2, Lib.hid (by rw [← HO.out]; rfl)⟩
          case measure => simp [intOf]
    | succ k =>
      have zk : ((k + 1 : Nat) : Int) - 1 = (k : Int) := by omega
      rw [zk]
      go_wp2_with fail
      refine (siftDown_u w0 blk off cap k n a N dk _ R S1.out (by omega) (by omega) hsz).mono ?_
      rintro e w1 ⟨rfl, S2⟩
      replace S2 := Lib.hid S2
      clear S1
      go_wp2
      go_roundw
      case rel => exact ⟨k, siftDown ltInt n a k dk, by rfl, by omega, S2, Lib.hid (by rw [← HO.out]; rfl)⟩
      case measure => simp [intOf]

theorem heapSort_u (w0 : World) (blk off cap a b N : Nat) (d : Array Int) (w : World) (R : RoU w0 blk off N) (S : SWu w0 blk off N d w) (hab : a < b) (hb : b ≤ N) (hsz : N ≤ 1000000) :
    Calls Try.prog 71 #[.slice (some ⟨blk, off, none⟩) N cap, .int .i64 a, .int .i64 b] w fun e w' => e = .returned (.tuple #[]) ∧ SWu w0 blk off N (heapSort ltInt d a b) w' :=
  heapSortZ_u w0 blk off cap a (b - a) N b d w R S (by omega) (by omega) (by omega) hsz

end Go.Proofs.Ytdpmhhfpjpdfiaa

namespace Go.Proofs.Ytdpmhhfpjpdfiaa
open Go.ChangeShapes Go.WideShapes Go.ChangeAt Go.RowKit Go.Sort
set_option linter.unusedVariables false
set_option linter.unusedSimpArgs false

set_option maxRecDepth 100000 in
set_option maxHeartbeats 8000000 in
theorem partition_u (w0 : World) (blk off cap a b pivot N : Nat) (d : Array Int) (w : World) (R : RoU w0 blk off N) (S : SWu w0 blk off N d w) (hap : a ≤ pivot) (hpb : pivot < b) (hb : b ≤ N) (hsz : N ≤ 1000000) :
    Calls Try.prog 78 #[.slice (some ⟨blk, off, none⟩) N cap, .int .i64 a, .int .i64 b, .int .i64 pivot] w fun e w' => e = .returned (.tuple #[.int .i64 ((partition ltInt d a b pivot).1 : Nat), .bool (partition ltInt d a b pivot).2.1]) ∧ SWu w0 blk off N (partition ltInt d a b pivot).2.2 w' := by
  replace S := Lib.hid S
  obtain ⟨i1, hi1⟩ : ∃ i1 : Nat, i1 = a + 1 := ⟨_, rfl⟩
  obtain ⟨j1, hj1⟩ : ∃ j1 : Nat, j1 = b - 1 := ⟨_, rfl⟩
  have zi1 : (a : Int) + 1 = (i1 : Int) := by omega
  have zj1 : (b : Int) - 1 = (j1 : Int) := by omega
  have bi1 : a < i1 := by omega
  have bij : i1 ≤ j1 + 1 := by omega
  have bj1 : j1 < b := by omega
  obtain ⟨d1, hd1⟩ : ∃ d1, d1 = swp d a pivot := ⟨_, rfl⟩
  obtain ⟨T, hT⟩ : ∃ T, T = partition ltInt d a b pivot := ⟨_, rfl⟩
  rw [← hT]
  have HT := Lib.hid (show T = partition ltInt d a b pivot ∧ i1 = a + 1 ∧ j1 = b - 1 ∧ d1 = swp d a pivot from ⟨hT, hi1, hj1, hd1⟩)
  replace hd1 := Lib.hid hd1
  clear hT hi1 hj1
  go_enter Try.func78, Try.ntmps78
  go_wp2_with fail
  obtain ⟨G, HG, hcw, hfw⟩ := R.fam S.out
  obtain ⟨u, hc2⟩ := fam_c2 hcw a pivot (.int .u32 (G pivot)) (by omega) (by omega)
  go_region
  have S1 : Hid (SWu w0 blk off N d1 ((w.setCell ⟨blk, off + a, none⟩ (.int .u32 (G pivot))).setCell ⟨blk, off + pivot, none⟩ (.int .u32 (G a))).drew) := Lib.hid (by rw [hd1.out]; exact SWu.swapD R S.out HG a pivot (by omega) (by omega))
  clear S hcw hfw hc2 HG hd1
  generalize ((w.setCell ⟨blk, off + a, none⟩ (.int .u32 (G pivot))).setCell ⟨blk, off + pivot, none⟩ (.int .u32 (G a))).drew = w1 at *
  go_upto_block 0 with fail
  go_cut [10] (fun s wx => ∃ p : Nat, s = .int .i64 p ∧ Hid (p = scanUp (fun x => ltInt x d1[a]!) d1 j1 i1) ∧ i1 ≤ p ∧ p ≤ j1 + 1 ∧ Hid (SWu w0 blk off N d1 wx))
  case first =>
    go_wp2_with fail
    go_loopw [10] (fun vi wl => ∃ p : Nat, vi = .int .i64 p ∧ i1 ≤ p ∧ p ≤ j1 + 1 ∧ Hid (SWu w0 blk off N d1 wl) ∧ Hid (scanUp (fun x => ltInt x d1[a]!) d1 j1 p = scanUp (fun x => ltInt x d1[a]!) d1 j1 i1)) (fun vi _ => j1 + 1 - (intOf vi).toNat)
    case atStart => exact ⟨i1, rfl, Nat.le_refl _, bij, S1, Lib.hid rfl⟩
    case round =>
      clear S1
      obtain ⟨p, rfl, hp1, hp2, SP, HP⟩ := hrel
      obtain ⟨G, HG, hcw, hfw⟩ := R.fam SP.out
      by_cases hle : p ≤ j1
      · have hd : decide ((p : Int) ≤ (j1 : Int)) = true := decide_eq_true (by omega)
        have hz : (p : Int) ≤ (j1 : Int) := by omega
        cases hl : ltInt (G p) (G a) with
        | true =>
          go_wp2_with fail
          go_big_quiet (first | (go_at_call 76; refine less_q _ _ _ _))
          go_wp2_with fail
          go_roundw
          case rel => exact ⟨p + 1, by go_num, by omega, by omega, Lib.hid (SP.out.drewN _), Lib.hid (by rw [← HP.out, ← scanUp_go _ _ _ _ hle (by rw [← HG.out, ← HG.out, hl])])⟩
          case measure => simp [intOf]; omega
        | false =>
          go_wp2_with fail
          go_big_quiet (first | (go_at_call 76; refine less_q _ _ _ _))
          go_wp2_with fail
          go_meet
          exact ⟨p, rfl, Lib.hid (by rw [← HP.out, scanUp_end _ _ _ _ (Or.inr (by rw [← HG.out, ← HG.out, hl]))]), hp1, hp2, Lib.hid (SP.out.drewN _)⟩
      · have hd : decide ((p : Int) ≤ (j1 : Int)) = false := decide_eq_false (by omega)
        have hz : ¬ (p : Int) ≤ (j1 : Int) := by omega
        go_wp2_with fail
        go_big_quiet (first | (go_at_call 76; refine less_q _ _ _ _))
        go_wp2_with fail
        go_meet
        exact ⟨p, rfl, Lib.hid (by rw [← HP.out, scanUp_end _ _ _ _ (Or.inl hle)]), hp1, hp2, Lib.hid (SP.out.drewN _)⟩
  case rest =>
    obtain ⟨i2, rfl, hi2, bi2, bi2', S2⟩ := hcut
    clear S1

    go_upto_block 2 with fail
    go_cut [11] (fun s wx => ∃ q : Nat, s = .int .i64 q ∧ Hid (q = scanDown (fun x => !ltInt x d1[a]!) d1 i2 j1) ∧ q ≤ j1 ∧ i2 ≤ q + 1 ∧ Hid (SWu w0 blk off N d1 wx))
    case first =>
      go_wp2_with fail
      go_loopw [11] (fun vi wl => ∃ q : Nat, vi = .int .i64 q ∧ q ≤ j1 ∧ i2 ≤ q + 1 ∧ Hid (SWu w0 blk off N d1 wl) ∧ Hid (scanDown (fun x => !ltInt x d1[a]!) d1 i2 q = scanDown (fun x => !ltInt x d1[a]!) d1 i2 j1)) (fun vi _ => (intOf vi).toNat)
      case atStart => exact ⟨j1, rfl, Nat.le_refl _, bi2', S2, Lib.hid rfl⟩
      case round =>
        clear S2
        obtain ⟨q, rfl, hq1, hq2, SQ, HQ⟩ := hrel
        obtain ⟨G, HG, hcw, hfw⟩ := R.fam SQ.out
        by_cases hle : i2 ≤ q
        · have hd : decide ((i2 : Int) ≤ (q : Int)) = true := decide_eq_true (by omega)
          have hz : (i2 : Int) ≤ (q : Int) := by omega
          cases hl : ltInt (G q) (G a) with
          | false =>
            go_wp2_with fail
            go_big_quiet (first | (go_at_call 76; refine less_q _ _ _ _))
            go_wp2_with fail
            go_roundw
            case rel => exact ⟨q - 1, by congr 1; omega, by omega, by omega, Lib.hid (SQ.out.drewN _), Lib.hid (by rw [← HQ.out, ← scanDown_go _ _ _ _ hle (by omega) (by rw [← HG.out, ← HG.out, hl]; rfl)])⟩
            case measure => simp [intOf]; omega
          | true =>
            go_wp2_with fail
            go_big_quiet (first | (go_at_call 76; refine less_q _ _ _ _))
            go_wp2_with fail
            go_meet
            exact ⟨q, rfl, Lib.hid (by rw [← HQ.out, scanDown_end _ _ _ _ (Or.inr (by rw [← HG.out, ← HG.out, hl]; rfl))]), hq1, hq2, Lib.hid (SQ.out.drewN _)⟩
        · have hd : decide ((i2 : Int) ≤ (q : Int)) = false := decide_eq_false (by omega)
          have hz : ¬ (i2 : Int) ≤ (q : Int) := by omega
          go_wp2_with fail
          go_big_quiet (first | (go_at_call 76; refine less_q _ _ _ _))
          go_wp2_with fail
          go_meet
          exact ⟨q, rfl, Lib.hid (by rw [← HQ.out, scanDown_end _ _ _ _ (Or.inl hle)]), hq1, hq2, Lib.hid (SQ.out.drewN _)⟩
    case rest =>
      obtain ⟨j2, rfl, hj2, bj2, bj2', S3⟩ := hcut
      clear S2
      by_cases hgt : j2 < i2
      · have hz : (j2 : Int) < (i2 : Int) := by omega
        have HT2 := Lib.hid (show T = (j2, true, swp d1 j2 a) by obtain ⟨e1, e2, e3, e4⟩ := HT.out; rw [e1]; exact part_first_break ltInt d a b pivot e2 e3 e4 hi2.out hj2.out hgt)
        obtain ⟨G, HG, hcw, hfw⟩ := R.fam S3.out
        obtain ⟨u, hc2⟩ := fam_c2 hcw j2 a (.int .u32 (G a)) (by omega) (by omega)
        go_wp2_with fail
        go_region
        all_goals go_wp2_with fail
        all_goals exact bodyPost_ret (v := .tuple #[.int .i64 (j2 : Nat), .bool true]) (by simp [results, Try.results78, go_sem]) rfl (by rw [HT2.out]; exact ⟨rfl, SWu.swapD R S3.out HG j2 a (by omega) (by omega)⟩)
      · have hz : ¬ (j2 : Int) < (i2 : Int) := by omega
        have hlt := part_scans_lt ltInt a i1 j1 d1 (by omega) hi2.out hj2.out (by omega)
        obtain ⟨G, HG, hcw, hfw⟩ := R.fam S3.out
        go_wp2_with fail
        go_region
        have S4 := Lib.hid (SWu.swapD R S3.out HG i2 j2 (by omega) (by omega))
        obtain ⟨i3, hi3⟩ : ∃ i3 : Nat, i3 = i2 + 1 := ⟨_, rfl⟩
        obtain ⟨j3, hj3⟩ : ∃ j3 : Nat, j3 = j2 - 1 := ⟨_, rfl⟩
        obtain ⟨d3, hd3⟩ : ∃ d3, d3 = swp d1 i2 j2 := ⟨_, rfl⟩
        obtain ⟨L, hL⟩ : ∃ L, L = partLoop ltInt a i3 j3 d3 := ⟨_, rfl⟩
        have HT2 := Lib.hid (show T = (L.1, false, swp L.2 L.1 a) by
          obtain ⟨e1, e2, e3, e4⟩ := HT.out; rw [e1, hL, hd3, hi3, hj3]; exact part_first_go ltInt d a b pivot e2 e3 e4 hi2.out hj2.out (by omega))
        have zi3 : (i2 : Int) + 1 = (i3 : Int) := by omega
        have zj3 : (j2 : Int) - 1 = (j3 : Int) := by omega
        have bi3 : a < i3 := by omega
        have bij3 : i3 ≤ j3 + 1 := by omega
        have bj3 : j3 < b := by omega
        rw [← hd3] at S4
        replace hL := Lib.hid hL
        clear S3 hcw hfw HG hd3 hi3 hj3 hi2 hj2 HT
        generalize ((wc.setCell ⟨blk, off + i2, none⟩ (.int .u32 (G j2))).setCell ⟨blk, off + j2, none⟩ (.int .u32 (G i2))).drew = w4 at *
        go_upto_block 4 with fail
        go_cut [11] (fun s wx => ∃ q : Nat, s = .int .i64 q ∧ a ≤ q ∧ q < b ∧ Hid (q = L.1) ∧ Hid (SWu w0 blk off N L.2 wx))
        case first =>
          go_wp2_with fail
          go_loopw [10, 11] (fun vi vj wl => ∃ (i j : Nat) (dk : Array Int), vi = .int .i64 i ∧ vj = .int .i64 j ∧ a < i ∧ i ≤ j + 1 ∧ j < b ∧ Hid (SWu w0 blk off N dk wl) ∧ Hid (partLoop ltInt a i j dk = L)) (fun vi vj _ => (intOf vj).toNat + 1 - (intOf vi).toNat)
          case atStart => exact ⟨i3, j3, d3, rfl, rfl, bi3, bij3, bj3, S4, Lib.hid hL.out.symm⟩
          case round =>
            clear S4 hL HT2 hlt hz hgt bi2 bi2' bj2 bj2' zi3 zj3 bi3 bij3 bj3 zi1 zj1
            obtain ⟨i, j, dk, rfl, rfl, bi, bij, bj, S5, HL⟩ := hrel
            generalize wr = w5 at *
            go_upto_block 6 with fail
            go_cut [10] (fun s wx => ∃ p : Nat, s = .int .i64 p ∧ Hid (p = scanUp (fun x => ltInt x dk[a]!) dk j i) ∧ i ≤ p ∧ p ≤ j + 1 ∧ Hid (SWu w0 blk off N dk wx))
            case first =>
              go_wp2_with fail
              go_loopw [10] (fun vi wl => ∃ p : Nat, vi = .int .i64 p ∧ i ≤ p ∧ p ≤ j + 1 ∧ Hid (SWu w0 blk off N dk wl) ∧ Hid (scanUp (fun x => ltInt x dk[a]!) dk j p = scanUp (fun x => ltInt x dk[a]!) dk j i)) (fun vi _ => j + 1 - (intOf vi).toNat)
              case atStart => exact ⟨i, rfl, Nat.le_refl _, bij, S5, Lib.hid rfl⟩
              case round =>
                clear S5
                obtain ⟨p, rfl, hp1, hp2, SP, HP⟩ := hrel
                obtain ⟨G, HG, hcw, hfw⟩ := R.fam SP.out
                by_cases hle : p ≤ j
                · have hd : decide ((p : Int) ≤ (j : Int)) = true := decide_eq_true (by omega)
                  have hz : (p : Int) ≤ (j : Int) := by omega
                  cases hl : ltInt (G p) (G a) with
                  | true =>
                    go_wp2_with fail
                    go_big_quiet (first | (go_at_call 76; refine less_q _ _ _ _))
                    go_wp2_with fail
                    go_roundw
                    case rel => exact ⟨p + 1, by go_num, by omega, by omega, Lib.hid (SP.out.drewN _), Lib.hid (by rw [← HP.out, ← scanUp_go _ _ _ _ hle (by rw [← HG.out, ← HG.out, hl])])⟩
                    case measure => simp [intOf]; omega
                  | false =>
                    go_wp2_with fail
                    go_big_quiet (first | (go_at_call 76; refine less_q _ _ _ _))
                    go_wp2_with fail
                    go_meet
                    exact ⟨p, rfl, Lib.hid (by rw [← HP.out, scanUp_end _ _ _ _ (Or.inr (by rw [← HG.out, ← HG.out, hl]))]), hp1, hp2, Lib.hid (SP.out.drewN _)⟩
                · have hd : decide ((p : Int) ≤ (j : Int)) = false := decide_eq_false (by omega)
                  have hz : ¬ (p : Int) ≤ (j : Int) := by omega
                  go_wp2_with fail
                  go_big_quiet (first | (go_at_call 76; refine less_q _ _ _ _))
                  go_wp2_with fail
                  go_meet
                  exact ⟨p, rfl, Lib.hid (by rw [← HP.out, scanUp_end _ _ _ _ (Or.inl hle)]), hp1, hp2, Lib.hid (SP.out.drewN _)⟩
            case rest =>
              obtain ⟨i2, rfl, hi2, bi2, bi2', S2⟩ := hcut
              clear S5

              go_upto_block 8 with fail
              go_cut [11] (fun s wx => ∃ q : Nat, s = .int .i64 q ∧ Hid (q = scanDown (fun x => !ltInt x dk[a]!) dk i2 j) ∧ q ≤ j ∧ i2 ≤ q + 1 ∧ Hid (SWu w0 blk off N dk wx))
              case first =>
                go_wp2_with fail
                go_loopw [11] (fun vi wl => ∃ q : Nat, vi = .int .i64 q ∧ q ≤ j ∧ i2 ≤ q + 1 ∧ Hid (SWu w0 blk off N dk wl) ∧ Hid (scanDown (fun x => !ltInt x dk[a]!) dk i2 q = scanDown (fun x => !ltInt x dk[a]!) dk i2 j)) (fun vi _ => (intOf vi).toNat)
                case atStart => exact ⟨j, rfl, Nat.le_refl _, bi2', S2, Lib.hid rfl⟩
                case round =>
                  clear S2
                  obtain ⟨q, rfl, hq1, hq2, SQ, HQ⟩ := hrel
                  obtain ⟨G, HG, hcw, hfw⟩ := R.fam SQ.out
                  by_cases hle : i2 ≤ q
                  · have hd : decide ((i2 : Int) ≤ (q : Int)) = true := decide_eq_true (by omega)
                    have hz : (i2 : Int) ≤ (q : Int) := by omega
                    cases hl : ltInt (G q) (G a) with
                    | false =>
                      go_wp2_with fail
                      go_big_quiet (first | (go_at_call 76; refine less_q _ _ _ _))
                      go_wp2_with fail
                      go_roundw
                      case rel => exact ⟨q - 1, by congr 1; omega, by omega, by omega, Lib.hid (SQ.out.drewN _), Lib.hid (by rw [← HQ.out, ← scanDown_go _ _ _ _ hle (by omega) (by rw [← HG.out, ← HG.out, hl]; rfl)])⟩
                      case measure => simp [intOf]; omega
                    | true =>
                      go_wp2_with fail
                      go_big_quiet (first | (go_at_call 76; refine less_q _ _ _ _))
                      go_wp2_with fail
                      go_meet
                      exact ⟨q, rfl, Lib.hid (by rw [← HQ.out, scanDown_end _ _ _ _ (Or.inr (by rw [← HG.out, ← HG.out, hl]; rfl))]), hq1, hq2, Lib.hid (SQ.out.drewN _)⟩
                  · have hd : decide ((i2 : Int) ≤ (q : Int)) = false := decide_eq_false (by omega)
                    have hz : ¬ (i2 : Int) ≤ (q : Int) := by omega
                    go_wp2_with fail
                    go_big_quiet (first | (go_at_call 76; refine less_q _ _ _ _))
                    go_wp2_with fail
                    go_meet
                    exact ⟨q, rfl, Lib.hid (by rw [← HQ.out, scanDown_end _ _ _ _ (Or.inl hle)]), hq1, hq2, Lib.hid (SQ.out.drewN _)⟩
              case rest =>
                obtain ⟨j2, rfl, hj2, bj2, bj2', S3⟩ := hcut
                clear S2
                by_cases hgt : j2 < i2
                · have hz : (j2 : Int) < (i2 : Int) := by omega
                  have HL2 := Lib.hid (show (j2, dk) = L by rw [← HL.out]; exact (part_break ltInt a i j dk hi2.out hj2.out hgt).symm)
                  go_wp2_with fail
                  go_meet
                  exact ⟨j2, rfl, by omega, by omega, Lib.hid (by rw [← HL2.out]), Lib.hid (by rw [← HL2.out]; exact S3.out)⟩
                · have hz : ¬ (j2 : Int) < (i2 : Int) := by omega
                  have hlt := part_scans_lt ltInt a i j dk (by omega) hi2.out hj2.out (by omega)
                  have HL2 := Lib.hid (show partLoop ltInt a (i2 + 1) (j2 - 1) (swp dk i2 j2) = L by rw [← HL.out]; exact (part_go ltInt a i j dk hi2.out hj2.out (by omega)).symm)
                  obtain ⟨G, HG, hcw, hfw⟩ := R.fam S3.out
                  go_wp2_with fail
                  go_region
                  all_goals go_wp2_with fail
                  go_roundw
                  case rel => exact ⟨i2 + 1, j2 - 1, swp dk i2 j2, by go_num, by congr 1; omega, by omega, by omega, by omega, Lib.hid (SWu.swapD R S3.out HG i2 j2 (by omega) (by omega)), HL2⟩
                  case measure => simp [intOf]; omega
        case rest =>
          obtain ⟨q, rfl, bq1, bq2, hq, S6⟩ := hcut
          clear S4
          obtain ⟨G, HG, hcw, hfw⟩ := R.fam S6.out
          obtain ⟨u, hc2⟩ := fam_c2 hcw q a (.int .u32 (G a)) (by omega) (by omega)
          go_wp2_with fail
          go_region
          all_goals go_wp2_with fail
          all_goals exact bodyPost_ret (v := .tuple #[.int .i64 (q : Nat), .bool false]) (by simp [results, Try.results78, go_sem]) rfl (by rw [HT2.out, ← hq.out]; exact ⟨rfl, SWu.swapD R S6.out HG q a (by omega) (by omega)⟩)

end Go.Proofs.Ytdpmhhfpjpdfiaa

namespace Go.Proofs.Ytdpmhhfpjpdfiaa
open Go.ChangeShapes Go.WideShapes Go.ChangeAt Go.RowKit Go.Sort
set_option linter.unusedVariables false
set_option linter.unusedSimpArgs false

set_option maxRecDepth 100000 in
set_option maxHeartbeats 8000000 in
theorem partitionEqual_u (w0 : World) (blk off cap a b pivot N : Nat) (d : Array Int) (w : World) (R : RoU w0 blk off N) (S : SWu w0 blk off N d w) (hap : a ≤ pivot) (hpb : pivot < b) (hb : b ≤ N) (hsz : N ≤ 1000000) :
    Calls Try.prog 77 #[.slice (some ⟨blk, off, none⟩) N cap, .int .i64 a, .int .i64 b, .int .i64 pivot] w fun e w' => e = .returned (.int .i64 ((partitionEqual ltInt d a b pivot).1 : Nat)) ∧ SWu w0 blk off N (partitionEqual ltInt d a b pivot).2 w' := by
  replace S := Lib.hid S
  obtain ⟨i1, hi1⟩ : ∃ i1 : Nat, i1 = a + 1 := ⟨_, rfl⟩
  obtain ⟨j1, hj1⟩ : ∃ j1 : Nat, j1 = b - 1 := ⟨_, rfl⟩
  have zi1 : (a : Int) + 1 = (i1 : Int) := by omega
  have zj1 : (b : Int) - 1 = (j1 : Int) := by omega
  have bi1 : a < i1 := by omega
  have bij : i1 ≤ j1 + 1 := by omega
  have bj1 : j1 < b := by omega
  obtain ⟨d1, hd1⟩ : ∃ d1, d1 = swp d a pivot := ⟨_, rfl⟩
  obtain ⟨T, hT⟩ : ∃ T, T = partitionEqual ltInt d a b pivot := ⟨_, rfl⟩
  rw [← hT]
  have HT := Lib.hid (show partEqLoop ltInt a i1 j1 d1 = T by rw [hT, hi1, hj1, hd1]; rfl)
  replace hd1 := Lib.hid hd1
  clear hT hi1 hj1
  go_enter Try.func77, Try.ntmps77
  go_wp2_with fail
  obtain ⟨G, HG, hcw, hfw⟩ := R.fam S.out
  obtain ⟨u, hc2⟩ := fam_c2 hcw a pivot (.int .u32 (G pivot)) (by omega) (by omega)
  go_region
  have S1 : Hid (SWu w0 blk off N d1 ((w.setCell ⟨blk, off + a, none⟩ (.int .u32 (G pivot))).setCell ⟨blk, off + pivot, none⟩ (.int .u32 (G a))).drew) := Lib.hid (by rw [hd1.out]; exact SWu.swapD R S.out HG a pivot (by omega) (by omega))
  clear S hcw hfw hc2 HG hd1
  generalize ((w.setCell ⟨blk, off + a, none⟩ (.int .u32 (G pivot))).setCell ⟨blk, off + pivot, none⟩ (.int .u32 (G a))).drew = w1 at *
  go_wp2_with fail
  go_loopw [9, 10] (fun vi vj wl => ∃ (i j : Nat) (dk : Array Int), vi = .int .i64 i ∧ vj = .int .i64 j ∧ a < i ∧ i ≤ j + 1 ∧ j < b ∧ Hid (SWu w0 blk off N dk wl) ∧ Hid (partEqLoop ltInt a i j dk = T)) (fun vi vj _ => (intOf vj).toNat + 1 - (intOf vi).toNat)
  case atStart => exact ⟨i1, j1, d1, rfl, rfl, bi1, bij, bj1, S1, HT⟩
  case round =>
    clear S1 HT zi1 zj1 bi1 bij bj1
    obtain ⟨i, j, dk, rfl, rfl, bi, bij, bj, S5, HL⟩ := hrel
    generalize wr = w5 at *
    go_upto_block 2 with fail
    go_cut [9] (fun s wx => ∃ p : Nat, s = .int .i64 p ∧ Hid (p = scanUp (fun x => !ltInt dk[a]! x) dk j i) ∧ i ≤ p ∧ p ≤ j + 1 ∧ Hid (SWu w0 blk off N dk wx))
    case first =>
      go_wp2_with fail
      go_loopw [9] (fun vi wl => ∃ p : Nat, vi = .int .i64 p ∧ i ≤ p ∧ p ≤ j + 1 ∧ Hid (SWu w0 blk off N dk wl) ∧ Hid (scanUp (fun x => !ltInt dk[a]! x) dk j p = scanUp (fun x => !ltInt dk[a]! x) dk j i)) (fun vi _ => j + 1 - (intOf vi).toNat)
      case atStart => exact ⟨i, rfl, Nat.le_refl _, bij, S5, Lib.hid rfl⟩
      case round =>
        clear S5
        obtain ⟨p, rfl, hp1, hp2, SP, HP⟩ := hrel
        obtain ⟨G, HG, hcw, hfw⟩ := R.fam SP.out
        by_cases hle : p ≤ j
        · have hd : decide ((p : Int) ≤ (j : Int)) = true := decide_eq_true (by omega)
          have hz : (p : Int) ≤ (j : Int) := by omega
          cases hl : ltInt (G a) (G p) with
          | false =>
            go_wp2_with fail
            go_big_quiet (first | (go_at_call 76; refine less_q _ _ _ _))
            go_wp2_with fail
            go_roundw
            case rel => exact ⟨p + 1, by go_num, by omega, by omega, Lib.hid (SP.out.drewN _), Lib.hid (by rw [← HP.out, ← scanUp_go _ _ _ _ hle (by rw [← HG.out, ← HG.out, hl]; rfl)])⟩
            case measure => simp [intOf]; omega
          | true =>
            go_wp2_with fail
            go_big_quiet (first | (go_at_call 76; refine less_q _ _ _ _))
            go_wp2_with fail
            go_meet
            exact ⟨p, rfl, Lib.hid (by rw [← HP.out, scanUp_end _ _ _ _ (Or.inr (by rw [← HG.out, ← HG.out, hl]; rfl))]), hp1, hp2, Lib.hid (SP.out.drewN _)⟩
        · have hd : decide ((p : Int) ≤ (j : Int)) = false := decide_eq_false (by omega)
          have hz : ¬ (p : Int) ≤ (j : Int) := by omega
          go_wp2_with fail
          go_big_quiet (first | (go_at_call 76; refine less_q _ _ _ _))
          go_wp2_with fail
          go_meet
          exact ⟨p, rfl, Lib.hid (by rw [← HP.out, scanUp_end _ _ _ _ (Or.inl hle)]), hp1, hp2, Lib.hid (SP.out.drewN _)⟩
    case rest =>
      obtain ⟨i2, rfl, hi2, bi2, bi2', S2⟩ := hcut
      clear S5

      go_upto_block 4 with fail
      go_cut [10] (fun s wx => ∃ q : Nat, s = .int .i64 q ∧ Hid (q = scanDown (fun x => ltInt dk[a]! x) dk i2 j) ∧ q ≤ j ∧ i2 ≤ q + 1 ∧ Hid (SWu w0 blk off N dk wx))
      case first =>
        go_wp2_with fail
        go_loopw [10] (fun vi wl => ∃ q : Nat, vi = .int .i64 q ∧ q ≤ j ∧ i2 ≤ q + 1 ∧ Hid (SWu w0 blk off N dk wl) ∧ Hid (scanDown (fun x => ltInt dk[a]! x) dk i2 q = scanDown (fun x => ltInt dk[a]! x) dk i2 j)) (fun vi _ => (intOf vi).toNat)
        case atStart => exact ⟨j, rfl, Nat.le_refl _, bi2', S2, Lib.hid rfl⟩
        case round =>
          clear S2
          obtain ⟨q, rfl, hq1, hq2, SQ, HQ⟩ := hrel
          obtain ⟨G, HG, hcw, hfw⟩ := R.fam SQ.out
          by_cases hle : i2 ≤ q
          · have hd : decide ((i2 : Int) ≤ (q : Int)) = true := decide_eq_true (by omega)
            have hz : (i2 : Int) ≤ (q : Int) := by omega
            cases hl : ltInt (G a) (G q) with
            | true =>
              go_wp2_with fail
              go_big_quiet (first | (go_at_call 76; refine less_q _ _ _ _))
              go_wp2_with fail
              go_roundw
              case rel => exact ⟨q - 1, by congr 1; omega, by omega, by omega, Lib.hid (SQ.out.drewN _), Lib.hid (by rw [← HQ.out, ← scanDown_go _ _ _ _ hle (by omega) (by rw [← HG.out, ← HG.out, hl])])⟩
              case measure => simp [intOf]; omega
            | false =>
              go_wp2_with fail
              go_big_quiet (first | (go_at_call 76; refine less_q _ _ _ _))
              go_wp2_with fail
              go_meet
              exact ⟨q, rfl, Lib.hid (by rw [← HQ.out, scanDown_end _ _ _ _ (Or.inr (by rw [← HG.out, ← HG.out, hl]))]), hq1, hq2, Lib.hid (SQ.out.drewN _)⟩
          · have hd : decide ((i2 : Int) ≤ (q : Int)) = false := decide_eq_false (by omega)
            have hz : ¬ (i2 : Int) ≤ (q : Int) := by omega
            go_wp2_with fail
            go_big_quiet (first | (go_at_call 76; refine less_q _ _ _ _))
            go_wp2_with fail
            go_meet
            exact ⟨q, rfl, Lib.hid (by rw [← HQ.out, scanDown_end _ _ _ _ (Or.inl hle)]), hq1, hq2, Lib.hid (SQ.out.drewN _)⟩
      case rest =>
        obtain ⟨j2, rfl, hj2, bj2, bj2', S3⟩ := hcut
        clear S2
        by_cases hgt : j2 < i2
        · have hz : (j2 : Int) < (i2 : Int) := by omega
          have HL2 := Lib.hid (show (i2, dk) = T by rw [← HL.out]; exact (partEq_break ltInt a i j dk hi2.out hj2.out hgt).symm)
          go_wp2_with fail
          go_ret
          rw [← HL2.out]
          exact ⟨rfl, S3.out⟩
        · have hz : ¬ (j2 : Int) < (i2 : Int) := by omega
          have hlt := scans_lt ltInt a i j dk (by omega) hi2.out hj2.out (by omega)
          have HL2 := Lib.hid (show partEqLoop ltInt a (i2 + 1) (j2 - 1) (swp dk i2 j2) = T by rw [← HL.out]; exact (partEq_go ltInt a i j dk hi2.out hj2.out (by omega)).symm)
          obtain ⟨G, HG, hcw, hfw⟩ := R.fam S3.out
          go_wp2_with fail
          go_region
          all_goals go_wp2_with fail
          go_roundw
          case rel => exact ⟨i2 + 1, j2 - 1, swp dk i2 j2, by go_num, by congr 1; omega, by omega, by omega, by omega, Lib.hid (SWu.swapD R S3.out HG i2 j2 (by omega) (by omega)), HL2⟩
          case measure => simp [intOf]; omega

end Go.Proofs.Ytdpmhhfpjpdfiaa

namespace Go.Proofs.Ytdpmhhfpjpdfiaa
open Go.ChangeShapes Go.WideShapes Go.ChangeAt Go.RowKit Go.Sort
set_option linter.unusedVariables false
set_option linter.unusedSimpArgs false

theorem scanS_go (d : Array Int) {b i : Nat} (h : i < b) (hl : ltInt d[i]! d[i - 1]! = false) : scanSorted ltInt d b i = scanSorted ltInt d b (i + 1) := by rw [scanSorted, if_pos (by simp [h, hl])]
theorem scanS_end (d : Array Int) {b i : Nat} (h : ¬ i < b ∨ ltInt d[i]! d[i - 1]! = true) : scanSorted ltInt d b i = i := by rw [scanSorted, if_neg (by rcases h with h | h <;> simp [h])]
theorem shU_go (d : Array Int) {b j : Nat} (h : j < b) (hl : ltInt d[j]! d[j - 1]! = true) : shiftUp ltInt b j d = shiftUp ltInt b (j + 1) (swp d j (j - 1)) := by rw [shiftUp, if_pos h, hl]; rfl
theorem shU_end (d : Array Int) {b j : Nat} (h : ¬ j < b ∨ ltInt d[j]! d[j - 1]! = false) : shiftUp ltInt b j d = d := by
  rw [shiftUp]
  rcases h with h | h
  · rw [if_neg h]
  · rw [h]; split <;> rfl
theorem shD_go (d : Array Int) {k : Nat} (hl : ltInt d[k + 1]! d[k]! = true) : shiftDown ltInt (k + 1) d = shiftDown ltInt k (swp d (k + 1) k) := by rw [shiftDown, hl]; rfl
theorem shD_end (d : Array Int) {k : Nat} (hl : ltInt d[k + 1]! d[k]! = false) : shiftDown ltInt (k + 1) d = d := by rw [shiftDown, hl]; rfl

set_option maxRecDepth 100000 in
set_option maxHeartbeats 8000000 in
theorem partialIns_u (w0 : World) (blk off cap a b N : Nat) (d : Array Int) (w : World) (R : RoU w0 blk off N) (S : SWu w0 blk off N d w) (hab : a < b) (hb : b ≤ N) (hsz : N ≤ 1000000) :
    Calls Try.prog 75 #[.slice (some ⟨blk, off, none⟩) N cap, .int .i64 a, .int .i64 b] w fun e w' => e = .returned (.bool (partialInsertionSort ltInt d a b).2) ∧ SWu w0 blk off N (partialInsertionSort ltInt d a b).1 w' := by
  replace S := Lib.hid S
  unfold partialInsertionSort
  generalize hT : partialIns ltInt a b 5 (a + 1) d = T
  replace hT := Lib.hid hT
  go_enter Try.func75, Try.ntmps75
  go_wp2_with fail
  go_loopw [7, 8, 9, 10] (fun vi vs _ _ wl => ∃ (i s : Nat) (dk : Array Int), vi = .int .i64 i ∧ vs = .int .i64 ((5 : Int) - (s : Int)) ∧ s ≤ 5 ∧ a < i ∧ i ≤ b ∧ Hid (SWu w0 blk off N dk wl) ∧ Hid (partialIns ltInt a b s i dk = T)) (fun _ vs _ _ _ => (5 - intOf vs).toNat)
  case atStart => exact ⟨a + 1, 5, d, by go_num, by rfl, by omega, by omega, by omega, S, hT⟩
  case round =>
    clear S hT
    obtain ⟨i, s, dk, rfl, rfl, bs, bi, bi', S1, HT⟩ := hrel
    generalize wr = w1 at *
    cases s with
    | zero =>
      have hz : ¬ ((5 : Int) - ((0 : Nat) : Int) < 5) := by omega
      have HT2 := Lib.hid (show (dk, false) = T by rw [← HT.out]; rfl)
      go_wp2_with fail
      go_ret
      rw [← HT2.out]
      exact ⟨rfl, S1.out⟩
    | succ s =>
      have hz : (5 : Int) - ((s + 1 : Nat) : Int) < 5 := by omega
      have hz2 : (5 : Int) - ((s + 1 : Nat) : Int) + 1 = 5 - (s : Int) := by omega
      generalize hV : (5 : Int) - ((s + 1 : Nat) : Int) = V at *
      have hVn : (5 - V).toNat = s + 1 := by omega
      have hVr : 0 ≤ V ∧ V ≤ 4 := by omega
      clear hV
      go_upto_block 2 with fail
      go_cut [7] (fun vi wx => ∃ p : Nat, vi = .int .i64 p ∧ Hid (p = scanSorted ltInt dk b i) ∧ a < p ∧ p ≤ b ∧ Hid (SWu w0 blk off N dk wx))
      case first =>
        go_wp2_with fail
        go_loopw [7] (fun vi wl => ∃ p : Nat, vi = .int .i64 p ∧ a < p ∧ p ≤ b ∧ Hid (SWu w0 blk off N dk wl) ∧ Hid (scanSorted ltInt dk b p = scanSorted ltInt dk b i)) (fun vi _ => b - (intOf vi).toNat)
        case atStart => exact ⟨i, rfl, bi, bi', S1, Lib.hid rfl⟩
        case round =>
          clear S1
          obtain ⟨p, rfl, hp1, hp2, SP, HP⟩ := hrel
          obtain ⟨G, HG, hcw, hfw⟩ := R.fam SP.out
          by_cases hle : p < b
          · have hd : decide ((p : Int) < (b : Int)) = true := decide_eq_true (by omega)
            have hz' : (p : Int) < (b : Int) := by omega
            cases hl : ltInt (G p) (G (p - 1)) with
            | false =>
              go_wp2_with fail
              go_big_quiet (first | (go_at_call 76; refine less_q _ _ _ _))
              go_wp2_with fail
              go_roundw
              case rel => exact ⟨p + 1, by go_num, by omega, by omega, Lib.hid (SP.out.drewN _), Lib.hid (by rw [← HP.out, ← scanS_go _ hle (by rw [← HG.out, ← HG.out, hl])])⟩
              case measure => simp [intOf]; omega
            | true =>
              go_wp2_with fail
              go_big_quiet (first | (go_at_call 76; refine less_q _ _ _ _))
              go_wp2_with fail
              go_meet
              exact ⟨p, rfl, Lib.hid (by rw [← HP.out, scanS_end _ (Or.inr (by rw [← HG.out, ← HG.out, hl]))]), hp1, hp2, Lib.hid (SP.out.drewN _)⟩
          · have hd : decide ((p : Int) < (b : Int)) = false := decide_eq_false (by omega)
            have hz' : ¬ (p : Int) < (b : Int) := by omega
            go_wp2_with fail
            go_big_quiet (first | (go_at_call 76; refine less_q _ _ _ _))
            go_wp2_with fail
            go_meet
            exact ⟨p, rfl, Lib.hid (by rw [← HP.out, scanS_end _ (Or.inl hle)]), hp1, hp2, Lib.hid (SP.out.drewN _)⟩
      case rest =>
        obtain ⟨p, rfl, hp, bp1, bp2, S2⟩ := hcut
        clear S1
        have HT1 := Lib.hid ((partialIns_succ a b s i dk (lt := ltInt)).symm.trans HT.out)
        rw [← hp.out] at HT1
        by_cases hpb : p = b
        · have hz3 : (p : Int) = (b : Int) := by omega
          have HT2 := Lib.hid (show (dk, true) = T by rw [← HT1.out, if_pos hpb])
          go_wp2_with fail
          go_ret
          rw [← HT2.out]
          exact ⟨rfl, S2.out⟩
        · have hz3 : ¬ (p : Int) = (b : Int) := by omega
          have hz3' : ((p : Int) == (b : Int)) = false := by simpa using hz3
          by_cases h50 : b - a < 50
          · have hz4 : (b : Int) - (a : Int) < 50 := by omega
            have HT2 := Lib.hid (show (dk, false) = T by rw [← HT1.out, if_neg hpb, if_pos h50])
            go_wp2_with fail
            go_ret
            rw [← HT2.out]
            exact ⟨rfl, S2.out⟩
          · have hz4 : ¬ (b : Int) - (a : Int) < 50 := by omega
            have HT2 := Lib.hid (HT1.out)
            rw [if_neg hpb, if_neg h50] at HT2
            obtain ⟨G, HG, hcw, hfw⟩ := R.fam S2.out
            go_wp2_with fail
            go_region
            have S3 := Lib.hid (SWu.swapD R S2.out HG p (p - 1) (by omega) (by omega))
            obtain ⟨d3, hd3⟩ : ∃ d3, d3 = swp dk p (p - 1) := ⟨_, rfl⟩
            rw [← hd3] at S3 HT2
            clear S2 hcw hfw HG hd3 hp HT HT1
            generalize ((wc.setCell ⟨blk, off + p, none⟩ (.int .u32 (G (p - 1)))).setCell ⟨blk, off + (p - 1), none⟩ (.int .u32 (G p))).drew = w3 at *
            obtain ⟨d4, hd4⟩ : ∃ d4, Hid (d4 = fixDown ltInt a p d3) := ⟨_, Lib.hid rfl⟩
            rw [← hd4.out] at HT2
            go_upto_if 61 with fail
            go_cut [9] (fun _ wx => Hid (SWu w0 blk off N d4 wx))
            case first =>
              by_cases h2 : p - a ≥ 2
              · have hz5 : (2 : Int) ≤ (p : Int) - (a : Int) := by omega
                have hd5 : Hid (shiftDown ltInt (p - 1) d3 = d4) := Lib.hid (by rw [hd4.out]; unfold fixDown; rw [if_pos h2])
                clear hd4
                go_wp2_with fail
                go_loopw [9] (fun vj wl => ∃ (j : Nat) (dj : Array Int), vj = .int .i64 j ∧ j < b ∧ Hid (SWu w0 blk off N dj wl) ∧ Hid (shiftDown ltInt j dj = d4)) (fun vj _ => (intOf vj).toNat)
                case atStart => exact ⟨p - 1, d3, by congr 1; omega, by omega, S3, hd5⟩
                case round =>
                  clear S3
                  obtain ⟨j, dj, rfl, bj, SJ, HJ⟩ := hrel
                  cases j with
                  | zero =>
                    have hz6 : ¬ (1 : Int) ≤ ((0 : Nat) : Int) := by omega
                    go_wp2_with fail
                    go_meet
                    exact Lib.hid (by rw [← HJ.out]; exact SJ.out)
                  | succ j =>
                    obtain ⟨G, HG, hcw, hfw⟩ := R.fam SJ.out
                    have hz6 : (1 : Int) ≤ ((j + 1 : Nat) : Int) := by omega
                    have hz7 : ((j + 1 : Nat) : Int) - 1 = (j : Int) := by omega
                    cases hl : ltInt (G (j + 1)) (G j) with
                    | true =>
                      go_wp2_with fail
                      go_big_quiet (first | (go_at_call 76; refine less_q _ _ _ _))
                      go_wp2_with fail
                      go_region
                      all_goals go_wp2_with fail
                      go_roundw
                      case rel => exact ⟨j, swp dj (j + 1) j, by congr 1, by omega, Lib.hid (SWu.swapd R SJ.out HG _ (j + 1) j (by omega) (by omega)), Lib.hid (by rw [← HJ.out, shD_go _ (by rw [← HG.out, ← HG.out]; exact hl)])⟩
                      case measure => simp [intOf]
                    | false =>
                      go_wp2_with fail
                      go_big_quiet (first | (go_at_call 76; refine less_q _ _ _ _))
                      go_wp2_with fail
                      go_meet
                      exact Lib.hid (by rw [← HJ.out, shD_end _ (by rw [← HG.out, ← HG.out]; exact hl)]; exact SJ.out.drewN _)
              · have hz5 : ¬ (2 : Int) ≤ (p : Int) - (a : Int) := by omega
                have hd5 : Hid (d3 = d4) := Lib.hid (by rw [hd4.out]; unfold fixDown; rw [if_neg h2])
                go_wp2_with fail
                go_meet
                rw [← hd5.out]
                exact S3
            case rest =>
              replace hcut := Lib.hid hcut
              clear S3
              have S4 := Lib.hid hcut.out.out
              clear hcut hd4
              obtain ⟨d6, hd4⟩ : ∃ d6, Hid (d6 = fixUp ltInt b p d4) := ⟨_, Lib.hid rfl⟩
              rw [← hd4.out] at HT2
              go_upto_if 98 with fail
              by_cases h2 : b - p ≥ 2
              · have hz5 : (2 : Int) ≤ (b : Int) - (p : Int) := by omega
                have hd5 : Hid (shiftUp ltInt b (p + 1) d4 = d6) := Lib.hid (by rw [hd4.out]; unfold fixUp; rw [if_pos h2])
                clear hd4
                go_wp2_with fail
                go_loopw [10] (fun vj wl => ∃ (j : Nat) (dj : Array Int), vj = .int .i64 j ∧ p < j ∧ j ≤ b ∧ Hid (SWu w0 blk off N dj wl) ∧ Hid (shiftUp ltInt b j dj = d6)) (fun vj _ => b - (intOf vj).toNat)
                case atStart => exact ⟨p + 1, d4, by go_num, by omega, by omega, S4, hd5⟩
                case round =>
                  clear S4
                  obtain ⟨j, dj, rfl, bj1, bj, SJ, HJ⟩ := hrel
                  by_cases hjb : j < b
                  · obtain ⟨G, HG, hcw, hfw⟩ := R.fam SJ.out
                    have hz6 : (j : Int) < (b : Int) := by omega
                    cases hl : ltInt (G j) (G (j - 1)) with
                    | true =>
                      go_wp2_with fail
                      go_big_quiet (first | (go_at_call 76; refine less_q _ _ _ _))
                      go_wp2_with fail
                      go_region
                      all_goals go_wp2_with fail
                      go_roundw
                      case rel => exact ⟨j + 1, swp dj j (j - 1), by go_num, by omega, by omega, Lib.hid (SWu.swapd R SJ.out HG _ j (j - 1) (by omega) (by omega)), Lib.hid (by rw [← HJ.out, shU_go _ hjb (by rw [← HG.out, ← HG.out]; exact hl)])⟩
                      case measure => simp [intOf]; omega
                    | false =>
                      go_wp2_with fail
                      go_big_quiet (first | (go_at_call 76; refine less_q _ _ _ _))
                      go_wp2_with fail
                      go_roundw
                      case rel => exact ⟨p, s, d6, rfl, by congr 1, by omega, by omega, by omega, Lib.hid (by rw [← HJ.out, shU_end _ (Or.inr (by rw [← HG.out, ← HG.out]; exact hl))]; exact SJ.out.drewN _), HT2⟩
                      case measure => simp [intOf]; omega
                  · have hz6 : ¬ (j : Int) < (b : Int) := by omega
                    go_wp2_with fail
                    go_roundw
                    case rel => exact ⟨p, s, d6, rfl, by congr 1, by omega, by omega, by omega, Lib.hid (by rw [← HJ.out, shU_end _ (Or.inl hjb)]; exact SJ.out), HT2⟩
                    case measure => simp [intOf]; omega
              · have hz5 : ¬ (2 : Int) ≤ (b : Int) - (p : Int) := by omega
                have hd5 : Hid (d4 = d6) := Lib.hid (by rw [hd4.out]; unfold fixUp; rw [if_neg h2])
                go_wp2_with fail
                go_roundw
                case rel => exact ⟨p, s, d6, rfl, by congr 1, by omega, by omega, by omega, (by rw [← hd5.out]; exact S4), HT2⟩
                case measure => simp [intOf]; omega

end Go.Proofs.Ytdpmhhfpjpdfiaa

namespace Go.Proofs.Ytdpmhhfpjpdfiaa
open Go.ChangeShapes Go.WideShapes Go.ChangeAt Go.RowKit Go.Sort
set_option linter.unusedVariables false
set_option linter.unusedSimpArgs false

def CtU (w0 : World) (blk off N : Nat) (d : Array Int) (c : Nat) (W : World) : Prop :=
  SWu w0 blk off N d W ∧ (∃ s, W.cell? ⟨c, 0, none⟩ = some (.int .i64 s)) ∧ W.frozen? ⟨c, 0, none⟩ = false ∧ w0.heap.size ≤ c
theorem CtU.drewN {w0 W : World} {blk off N c : Nat} {d : Array Int} (h : CtU w0 blk off N d c W) (q : Nat) : CtU w0 blk off N d c (W.drewN q) := ⟨h.1.drewN q, h.2.1, h.2.2.1, h.2.2.2⟩
theorem CtU.put {w0 W : World} {blk off N c : Nat} {d : Array Int} (h : CtU w0 blk off N d c W) (t : Int) : CtU w0 blk off N d c (W.setCell ⟨c, 0, none⟩ (.int .i64 t)) := by
  obtain ⟨s, hs⟩ := h.2.1
  exact ⟨⟨h.1.1.setCell_new c 0 _ h.2.2.2, h.1.2⟩, ⟨t, World.cell?_setCell_same _ _ _ hs⟩, by rw [World.frozen?_setCell]; exact h.2.2.1, h.2.2.2⟩

set_option maxRecDepth 100000 in
set_option maxHeartbeats 2000000 in
theorem order2_u (w0 : World) (blk off cap a b c N : Nat) (d : Array Int) (w : World) (R : RoU w0 blk off N) (S : CtU w0 blk off N d c w) (ha : a < N) (hb : b < N) (hsz : N ≤ 1000000) :
    Calls Try.prog 83 #[.slice (some ⟨blk, off, none⟩) N cap, .int .i64 a, .int .i64 b, .pointer (some ⟨c, 0, none⟩)] w fun e w' => ∃ x y : Nat, e = .returned (.tuple #[.int .i64 x, .int .i64 y]) ∧ ((x = a ∧ y = b) ∨ (x = b ∧ y = a)) ∧ CtU w0 blk off N d c w' := by
  replace S := Lib.hid S
  obtain ⟨G, HG, hcw, hfw⟩ := R.fam S.out.1
  go_enter Try.func83, Try.ntmps83
  go_wp2_with fail
  go_big_quiet (first | (go_at_call 76; refine less_q _ _ _ _))
  replace S := Lib.hid (S.out.drewN nq)
  clear hcw hfw
  generalize w.drewN nq = w1 at *
  obtain ⟨s, hs⟩ := S.out.2.1
  have hf := S.out.2.2.1
  go_wp2_with fail
  · exact bodyPost_ret (v := .tuple #[.int .i64 (b : Nat), .int .i64 (a : Nat)]) (by simp [results, Try.results83, go_sem]) rfl ⟨b, a, rfl, Or.inr ⟨rfl, rfl⟩, S.out.put _⟩
  · exact bodyPost_ret (v := .tuple #[.int .i64 (a : Nat), .int .i64 (b : Nat)]) (by simp [results, Try.results83, go_sem]) rfl ⟨a, b, rfl, Or.inl ⟨rfl, rfl⟩, S.out⟩

set_option maxRecDepth 100000 in
set_option maxHeartbeats 2000000 in
theorem median_u (w0 : World) (blk off cap a b k c N : Nat) (d : Array Int) (w : World) (R : RoU w0 blk off N) (S : CtU w0 blk off N d c w) (ha : a < N) (hb : b < N) (hk : k < N) (hsz : N ≤ 1000000) :
    Calls Try.prog 82 #[.slice (some ⟨blk, off, none⟩) N cap, .int .i64 a, .int .i64 b, .int .i64 k, .pointer (some ⟨c, 0, none⟩)] w fun e w' => ∃ m : Nat, e = .returned (.int .i64 m) ∧ (m = a ∨ m = b ∨ m = k) ∧ CtU w0 blk off N d c w' := by
  replace S := Lib.hid S
  go_enter Try.func82, Try.ntmps82
  go_wp2_with fail
  refine (order2_u w0 blk off cap a b c N d w R S.out ha hb hsz).mono ?_
  rintro e w1 ⟨x, y, rfl, h1, S1⟩
  replace S1 := Lib.hid S1
  replace h1 := Lib.hid h1
  clear S
  go_wp2_with fail
  refine (order2_u w0 blk off cap y k c N d w1 R S1.out (by have := h1.out; omega) hk hsz).mono ?_
  rintro e w2 ⟨y2, k2, rfl, h2, S2⟩
  replace S2 := Lib.hid S2
  replace h2 := Lib.hid h2
  clear S1
  go_wp2_with fail
  refine (order2_u w0 blk off cap x y2 c N d w2 R S2.out (by have := h1.out; omega) (by have := h1.out; have := h2.out; omega) hsz).mono ?_
  rintro e w3 ⟨x3, y3, rfl, h3, S3⟩
  replace S3 := Lib.hid S3
  replace h3 := Lib.hid h3
  clear S2
  go_wp2_with fail
  go_ret
  exact ⟨y3, rfl, by have := h1.out; have := h2.out; have := h3.out; omega, S3.out⟩

set_option maxRecDepth 100000 in
theorem medianAdj_u (w0 : World) (blk off cap a c N : Nat) (d : Array Int) (w : World) (R : RoU w0 blk off N) (S : CtU w0 blk off N d c w) (ha0 : 1 ≤ a) (ha : a + 1 < N) (hsz : N ≤ 1000000) :
    Calls Try.prog 81 #[.slice (some ⟨blk, off, none⟩) N cap, .int .i64 a, .pointer (some ⟨c, 0, none⟩)] w fun e w' => ∃ m : Nat, e = .returned (.int .i64 m) ∧ a ≤ m + 1 ∧ m ≤ a + 1 ∧ CtU w0 blk off N d c w' := by
  replace S := Lib.hid S
  obtain ⟨p, rfl⟩ : ∃ p, a = p + 1 := ⟨a - 1, by omega⟩
  have z1 : ((p + 1 : Nat) : Int) - 1 = (p : Int) := by omega
  have z2 : ((p + 1 : Nat) : Int) + 1 = ((p + 2 : Nat) : Int) := by omega
  go_enter Try.func81, Try.ntmps81
  generalize hq : ((p + 1 : Nat) : Int) = Z at *
  go_wp2_with fail
  rw [← hq]
  refine (median_u w0 blk off cap p (p + 1) (p + 2) c N d w R S.out (by omega) (by omega) (by omega) hsz).mono ?_
  rintro e w1 ⟨m, rfl, hm, S1⟩
  replace S1 := Lib.hid S1
  replace hm := Lib.hid hm
  go_wp2_with fail
  go_ret
  exact ⟨m, rfl, by have := hm.out; omega, by have := hm.out; omega, S1.out⟩

set_option maxRecDepth 100000 in
set_option maxHeartbeats 4000000 in
theorem choosePivot_u (w0 : World) (blk off cap a b N : Nat) (d : Array Int) (w : World) (R : RoU w0 blk off N) (S : SWu w0 blk off N d w) (hab : a + 8 < b) (hb : b ≤ N) (hsz : N ≤ 1000000) :
    Calls Try.prog 73 #[.slice (some ⟨blk, off, none⟩) N cap, .int .i64 a, .int .i64 b] w fun e w' => ∃ (p : Nat) (h : Int), e = .returned (.tuple #[.int .i64 p, .int .i64 h]) ∧ a ≤ p ∧ p < b ∧ SWu w0 blk off N d w' := by
  replace S := Lib.hid S
  obtain ⟨n, hn⟩ : ∃ n : Nat, (b : Int) - (a : Int) = (n : Int) := ⟨b - a, by omega⟩
  obtain ⟨q, hq⟩ : ∃ q : Nat, (n : Int) / 4 = (q : Int) := ⟨n / 4, by omega⟩
  obtain ⟨i1, hi1⟩ : ∃ i : Nat, (a : Int) + (q : Int) = (i : Int) := ⟨a + q, by omega⟩
  obtain ⟨i2, hi2⟩ : ∃ i : Nat, (a : Int) + (q : Int) * 2 = (i : Int) := ⟨a + q * 2, by omega⟩
  obtain ⟨i3, hi3⟩ : ∃ i : Nat, (a : Int) + (q : Int) * 3 = (i : Int) := ⟨a + q * 3, by omega⟩
  have b1 : a < i1 ∧ i1 < i2 ∧ i2 < i3 ∧ i3 + 1 < b := by omega
  have b0 := b1
  replace b1 := Lib.hid b1
  have z8 : (8 : Int) ≤ (n : Int) := by omega
  go_enter Try.func73, Try.ntmps73
  go_upto_if 34 with fail
  have S1 : Hid (CtU w0 blk off N d w.heap.size (w.alloc (.cells #[.int .i64 0] 3))) := Lib.hid ⟨⟨S.out.1.alloc _, S.out.2⟩, ⟨0, by simp⟩, by simp, S.out.1.le⟩
  clear S
  generalize w.alloc (.cells #[.int .i64 0] 3) = w1 at *
  generalize w.heap.size = c at *
  go_cut [10, 11, 12] (fun vx vy vz wx => ∃ x y z : Nat, vx = .int .i64 x ∧ vy = .int .i64 y ∧ vz = .int .i64 z ∧ Hid (a ≤ x ∧ x < b ∧ a ≤ y ∧ y < b ∧ a ≤ z ∧ z < b) ∧ Hid (CtU w0 blk off N d c wx))
  case first =>
    by_cases h50 : (50 : Int) ≤ (n : Int)
    · go_wp2_with fail
      refine (medianAdj_u w0 blk off cap i1 c N d w1 R S1.out (by omega) (by omega) hsz).mono ?_
      rintro e w2 ⟨x, rfl, x1, x2, S2⟩
      replace S2 := Lib.hid S2
      have hx := Lib.hid (And.intro x1 x2)
      clear S1 x1 x2
      go_wp2_with fail
      refine (medianAdj_u w0 blk off cap i2 c N d w2 R S2.out (by omega) (by omega) hsz).mono ?_
      rintro e w3 ⟨y, rfl, x1, x2, S3⟩
      replace S3 := Lib.hid S3
      have hy := Lib.hid (And.intro x1 x2)
      clear S2 x1 x2
      go_wp2_with fail
      refine (medianAdj_u w0 blk off cap i3 c N d w3 R S3.out (by omega) (by omega) hsz).mono ?_
      rintro e w4 ⟨z, rfl, x1, x2, S4⟩
      replace S4 := Lib.hid S4
      have hz := Lib.hid (And.intro x1 x2)
      clear S3 x1 x2
      go_wp2_with fail
      go_meet
      exact ⟨x, y, z, rfl, rfl, rfl, Lib.hid (by have := hx.out; have := hy.out; have := hz.out; omega), S4⟩
    · go_wp2_with fail
      go_meet
      exact ⟨i1, i2, i3, rfl, rfl, rfl, Lib.hid (by omega), S1⟩
  case rest =>
    obtain ⟨x, y, z, rfl, rfl, rfl, hb3, S2⟩ := hcut
    clear S1
    have hb4 := hb3.out
    replace hb4 := Lib.hid hb4
    go_wp2_with fail
    refine (median_u w0 blk off cap x y z c N d wc R S2.out (by have := hb4.out; omega) (by have := hb4.out; omega) (by have := hb4.out; omega) hsz).mono ?_
    rintro e w5 ⟨m, rfl, hm, S5⟩
    have hm2 := Lib.hid (show a ≤ m ∧ m < b by have := hb4.out; omega)
    replace S5 := Lib.hid S5
    clear S2 hm
    obtain ⟨s, hs⟩ := S5.out.2.1
    go_wp2_with fail
    · exact bodyPost_ret (v := .tuple #[.int .i64 (m : Nat), .int .i64 1]) (by simp [results, Try.results73, go_sem]) rfl ⟨m, _, rfl, hm2.out.1, hm2.out.2, S5.out.1⟩
    · exact bodyPost_ret (v := .tuple #[.int .i64 (m : Nat), .int .i64 2]) (by simp [results, Try.results73, go_sem]) rfl ⟨m, _, rfl, hm2.out.1, hm2.out.2, S5.out.1⟩
    · exact bodyPost_ret (v := .tuple #[.int .i64 (m : Nat), .int .i64 0]) (by simp [results, Try.results73, go_sem]) rfl ⟨m, _, rfl, hm2.out.1, hm2.out.2, S5.out.1⟩

end Go.Proofs.Ytdpmhhfpjpdfiaa
