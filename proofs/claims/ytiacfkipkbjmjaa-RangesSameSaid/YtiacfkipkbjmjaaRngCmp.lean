/-
  Contract of ranges.compare, and of slices.SortFunc by it; no claim stands here.
-/
import Derived.Test.YtiacfkipkbjmjaaRng
import Derived.Test.YtiacfkipkbjmjaaLaySp
import Derived.StillTailTactics
namespace Go.Proofs.Ytiacfkipkbjmjaa
open Go.ChangeShapes Go.WideShapes Go.ChangeAt Go.RowKit Go.Sort
set_option linter.unusedVariables false
attribute [local go_sem] World.cell?_alloc_some

def cmpS (a b : Int × Int × Int) : Int := orI (cmpI a.1 b.1) (cmpI a.2.1 b.2.1)
theorem cmpS_lt (a b : Int × Int × Int) : decide (cmpS a b < 0) = ltB a b := by
  unfold cmpS orI cmpI ltB
  rw [Bool.eq_iff_iff, decide_eq_true_eq, decide_eq_true_eq]
  (repeat' split) <;> omega

set_option maxHeartbeats 1000000 in
theorem compareS_grows (x y z x' y' z' : Int) (w : World) : Calls Try.prog 19 #[spv x y z, spv x' y' z'] w fun e w' => e = .returned (Vi (cmpS (x, y, z) (x', y', z'))) ∧ ∃ q os', w' = grow (w.drewN q) os' := by
  obtain ⟨r, hr⟩ : ∃ r, cmpS (x, y, z) (x', y', z') = r := ⟨_, rfl⟩
  rw [hr]
  unfold cmpS at hr
  have h1 := fun W => compare_any x x' W
  have h2 := fun W => compare_any y y' W
  simp only at hr
  generalize cmpI x x' = p at *
  generalize cmpI y y' = q at *
  replace hr := Lib.hid hr
  go_enter Try.func19, Try.ntmps19
  go_wp2
  have e1 : ∃ os', ((w.alloc (Obj.cells #[Value.int IntKind.u32 x, Value.int IntKind.u32 y, Value.int IntKind.u32 z] 36)).alloc (Obj.cells #[Value.int IntKind.u32 x', Value.int IntKind.u32 y', Value.int IntKind.u32 z'] 36)) = grow w os' := ⟨_, by rw [alloc_eq_grow, alloc_eq_grow, grow_grow]⟩
  have c0 : ((w.alloc (Obj.cells #[Value.int IntKind.u32 x, Value.int IntKind.u32 y, Value.int IntKind.u32 z] 36)).alloc (Obj.cells #[Value.int IntKind.u32 x', Value.int IntKind.u32 y', Value.int IntKind.u32 z'] 36)).drew.cell? ⟨w.heap.size, 0, none⟩ = some (Vu x) := by simp [go_sem]
  have c1 : ((w.alloc (Obj.cells #[Value.int IntKind.u32 x, Value.int IntKind.u32 y, Value.int IntKind.u32 z] 36)).alloc (Obj.cells #[Value.int IntKind.u32 x', Value.int IntKind.u32 y', Value.int IntKind.u32 z'] 36)).drew.cell? ⟨w.heap.size, 1, none⟩ = some (Vu y) := by simp [go_sem]
  have c2 : ((w.alloc (Obj.cells #[Value.int IntKind.u32 x, Value.int IntKind.u32 y, Value.int IntKind.u32 z] 36)).alloc (Obj.cells #[Value.int IntKind.u32 x', Value.int IntKind.u32 y', Value.int IntKind.u32 z'] 36)).drew.cell? ⟨w.heap.size + 1, 0, none⟩ = some (Vu x') := by simp [go_sem]
  have c3 : ((w.alloc (Obj.cells #[Value.int IntKind.u32 x, Value.int IntKind.u32 y, Value.int IntKind.u32 z] 36)).alloc (Obj.cells #[Value.int IntKind.u32 x', Value.int IntKind.u32 y', Value.int IntKind.u32 z'] 36)).drew.cell? ⟨w.heap.size + 1, 1, none⟩ = some (Vu y') := by simp [go_sem]
  generalize (w.alloc (Obj.cells #[Value.int IntKind.u32 x, Value.int IntKind.u32 y, Value.int IntKind.u32 z] 36)).alloc (Obj.cells #[Value.int IntKind.u32 x', Value.int IntKind.u32 y', Value.int IntKind.u32 z'] 36) = W at *
  generalize w.heap.size = pa at *
  obtain ⟨os1, e1⟩ := e1
  replace e1 := Lib.hid e1
  refine wp_region_still_tail 10 (by kernel_rfl) (by kernel_rfl) ?_
  simp only [List.take_succ_cons, List.take_zero, List.drop_succ_cons, List.drop_zero]
  change wpStill Try.prog _ W.drew (fun a' => wpList Try.prog _ _ _ a' W.drew) _ _
  have e2 := Lib.hid (show W.drew = grow (w.drewN 1) os1 by rw [e1.out]; rfl)
  generalize W.drew = w2 at *
  replace h1 := Lib.hid ((h1 w2).mono fun e w' h => (⟨h.1, h.2.symm⟩ : e = Ending.returned (Vi p) ∧ w' = w2))
  replace h2 := Lib.hid ((h2 w2).mono fun e w' h => (⟨h.1, h.2.symm⟩ : e = Ending.returned (Vi q) ∧ w' = w2))
  repeat still_step
  still_call h1.out
  repeat still_step
  still_call h2.out
  refine wpStill_nil ?_
  clear c0 c1 c2 c3
  go_wp2_with fail
  refine (or_any _ _ _ p q _ (by simp [go_sem]) (by simp [go_sem])).mono ?_
  rintro e w3 ⟨rfl, rfl⟩
  rw [hr.out]
  have e3 := Lib.hid (show ∃ os', w2.alloc (Obj.cells #[Value.int IntKind.i64 p, Value.int IntKind.i64 q] 3) = grow (w.drewN 1) os' from ⟨_, by rw [alloc_eq_grow, e2.out, grow_grow]⟩)
  go_wp2
  go_ret
  obtain ⟨os3, e3⟩ := e3.out
  exact ⟨rfl, 1, os3, e3⟩

theorem Ext.grow (w : World) (q : Nat) (os : Array Obj) : Ext w (grow (w.drewN q) os) := Ext.regrown w (w.drawn + q) os

theorem compareS_any (x y z x' y' z' : Int) (w : World) : Calls Try.prog 19 #[spv x y z, spv x' y' z'] w fun e w' => e = .returned (Vi (cmpS (x, y, z) (x', y', z'))) ∧ Ext w w' :=
  (compareS_grows x y z x' y' z' w).mono fun e w' ⟨h, q, os, hw⟩ => ⟨h, by rw [hw]; exact Ext.grow w q os⟩

theorem cmpS_swo : SWO (ltOf cmpS) where
  irrefl x := by unfold ltOf; rw [cmpS_lt, lt_not]; omega
  trans x y z h1 h2 := by unfold ltOf at *; rw [cmpS_lt, lt_iff] at *; omega
  ntrans x y z h1 h2 := by unfold ltOf at *; rw [cmpS_lt, lt_not] at *; omega

theorem flatK_flat (d : Array (Int × Int × Int)) (j : Nat) (hj : j < d.size * 3) : (flat encS d.toList)[j]? = some (flatK encS 3 d)[j]! := by
  have h1 : j / 3 < d.size := by omega
  have h2 : d.toList[j / 3]? = some d[j / 3]! := by
    rw [Array.getElem?_toList, getElem!_pos d (j / 3) h1]; exact Array.getElem?_eq_getElem h1
  have e : j = j / 3 * 3 + j % 3 := by omega
  rw [get_flatK _ _ _ _ hj]
  conv => lhs; rw [e]
  rw [flat_at encS_len h2 (by omega)]
  have h3 : j % 3 < (encS d[j / 3]!).length := by rw [encS_len]; omega
  rw [getElem!_pos (encS d[j / 3]!) (j % 3) h3]; exact List.getElem?_eq_getElem h3

theorem holds_own {w : World} {base g cap : Nat} {r : List (Int × Int × Int)} (h : w.ownsRow base 36 3 (.slice (some ⟨g, 0, none⟩) r.length cap) r.length (flat encS r)) : HoldsK encS 3 w g 0 r.toArray := by
  intro j hj
  have hj' : j < r.length * 3 := by simpa using hj
  have h1 := h.cellAt j hj'
  have h2 := flatK_flat r.toArray j (by simpa using hj')
  rw [Nat.zero_add]
  refine ⟨?_, h.frozenAt j⟩
  rw [h1]; exact h2
theorem holds_row {w : World} {g : Nat} {d : Array (Int × Int × Int)} (h : HoldsK encS 3 w g 0 d) : SpS w (some ⟨g, 0, none⟩) d.toList := fun h0 => by
  refine ⟨g, 0, rfl, fun j u hu => ?_⟩
  have hj : j < d.size * 3 := by
    rcases Nat.lt_or_ge j (d.size * 3) with k | k
    · exact k
    · rw [List.getElem?_eq_none (by rw [flat_len encS_len]; simpa using k)] at hu; cases hu
  have h1 := (h j (by simpa using hj)).1
  rw [flatK_flat d j hj] at hu
  rw [h1]; exact hu

theorem Ext.sorted {w0 w : World} {g n : Nat} {d : Array (Int × Int × Int)} {os : Array Obj} (h : Ext w0 w) (hg : w0.heap.size ≤ g) : Ext w0 (sortWorldK encS 3 w g 0 n d os) := by
  refine Ext.trans (b := putRowK encS 3 (Sort.ahead w n) g 0 d) ?_ (Ext.grow _ 0 os)
  refine ⟨RowKit.Below.os (w' := w) h, RowKit.Below.tape (w' := w) h, RowKit.Below.output (w' := w) h, ?_, ?_⟩
  · exact Nat.le_trans h.size (by unfold putRowK; rw [size_putRow]; exact Nat.le_refl _)
  · intro k hk
    rw [← RowKit.Below.block (w' := w) h k hk]
    unfold putRowK putRow mapBlock
    show (w.heap.modify g _)[k]? = w.heap[k]?
    rw [Array.getElem?_modify, if_neg (by omega)]

theorem sortS_any (g cap base : Nat) (r : List (Int × Int × Int)) (w : World) (h : w.ownsRow base 36 3 (.slice (some ⟨g, 0, none⟩) r.length cap) r.length (flat encS r)) (hg : g < w.heap.size) (hb : r.length ≤ 1000) :
    Calls Try.prog 18 #[.slice (some ⟨g, 0, none⟩) r.length cap, .func (.func 19) #[] #[]] w fun e w' =>
      e = .returned (.tuple #[]) ∧ ∃ r' : List (Int × Int × Int), r'.Perm r ∧ r'.Pairwise (fun s t => ltB t s = false) ∧ SpS w' (some ⟨g, 0, none⟩) r' ∧ ∀ w0, Ext w0 w → w0.heap.size ≤ g → Ext w0 w' := by
  have eg : ∀ args w, (callFunc 19 args).run Try.prog w = .ok (.enter 19 args) w := enters_of Try.func19 (by kernel_rfl) rfl
  have hH := holds_own h
  have hcmp : CmpLays Try.prog 19 #[] encS 3 cmpS g 0 r.toArray.size w := fun _ _ _ _ x y => compareS_grows x.1 x.2.1 x.2.2 y.1 y.2.1 y.2.2 _
  have hcon := AnyQ.slices_SortFunc Try.sortSp 3 Try.isAgg36 Try.sizeOf36 encS encS_len encS_one cmpS cmpS_swo 19 #[] g 0 cap r.toArray w eg hcmp hH hg (by simp; omega)
  refine Calls.mono hcon ?_
  rintro e w' ⟨he, d', n, os, hp, hs, hw⟩
  subst hw
  have hsz : d'.size = r.length := by have := hp.1; simpa using this
  refine ⟨he, d'.toList, ?_, ?_, ?_, fun w0 hx hg0 => hx.sorted hg0⟩
  · have := hp.2.2
    have e : List.take d'.size r = r := List.take_of_length_le (by omega)
    simpa [← hsz, e] using this
  · rw [List.pairwise_iff_getElem]
    intro i j hi hj hij
    have := hs i j (Nat.zero_le _) hij (by simpa [← hsz] using hj)
    unfold ltOf at this
    rw [cmpS_lt] at this
    rw [getElem!_pos d' j (by simpa using hj), getElem!_pos d' i (by simpa using hi)] at this
    simpa using this
  · exact holds_row (holdsK_sortWorldK_c encS 3 w g 0 r.toArray d' n os hH hg (by simpa using hsz))

end Go.Proofs.Ytiacfkipkbjmjaa
