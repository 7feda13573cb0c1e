/-
  Contracts of join, balance, leanRight, leanLeft; no claim stands here.
-/
import Derived.Test.YtanknhalgoheeaaYRd
import Derived.StillTailTactics
namespace Go.Proofs.Ytanknhalgoheeaa
open Go.ChangeShapes Go.WideShapes Go.ChangeAt Go.RowKit Go.Sort
set_option linter.unusedVariables false
attribute [local go_sem] World.cell?_alloc_some

def RetN (G : Nat → Prop) (w : World) (t : Tr) (e : Ending) (w' : World) : Prop := ∃ v, e = .returned v ∧ NewP G w' v t ∧ Ext w w'

set_option maxRecDepth 100000 in
set_option maxHeartbeats 16000000 in
theorem join_any {G : Nat → Prop} {a b : Nat} {ta tb : Tr} {w : World} (hA : AtP G w a ta) (hB : AtP G w b tb) (hG : Up G w) (ha : okT ta) (hb : okT tb) (hn : cnt ta + cnt tb ≤ 100000) :
    Calls Try.prog 30 #[Vp a, Vp b] w (RetN G w (.node ta tb)) := by
  have hta := ht_lt ha
  have htb := ht_lt hb
  have hsa := shw_le ta
  have hsb := shw_le tb
  have hA' := hA
  have hB' := hB
  obtain ⟨_, ch, lf, rt, ⟨_, _, _, p3, p4, p5, p6, p7⟩, _⟩ := hA'
  obtain ⟨_, ch, lf, rt, ⟨_, _, _, q3, q4, q5, q6, q7⟩, _⟩ := hB'
  have hend := Lib.hid (show ∀ W, Ext w W → RetN G w (.node ta tb) (.returned (Vp W.heap.size)) (W.alloc (.cells #[.slice none 0 0, Vp a, Vp b, Vi (max (htT ta) (htT tb) + 1 : Nat), Vi (cnt ta + cnt tb : Nat), Vi (shw ta + shw tb : Nat), Vq (min (loT ta) (loT tb)), Vq (max (hiT ta) (hiT tb))] 29)) by
    intro W hx
    have hx2 : Ext w (W.alloc (.cells #[.slice none 0 0, Vp a, Vp b, Vi (max (htT ta) (htT tb) + 1 : Nat), Vi (cnt ta + cnt tb : Nat), Vi (shw ta + shw tb : Nat), Vq (min (loT ta) (loT tb)), Vq (max (hiT ta) (hiT tb))] 29)) := hx.alloc _
    refine ⟨_, rfl, ⟨W.heap.size, rfl, hG _ hx.size, _, _, _, ?_, PV.of_node (hA.ext hx2) (hB.ext hx2)⟩, hx2⟩
    rw [cnt_node, shw_node]
    exact PtC.new W _ _ _ _ _ _ _ _ _)
  clear hA hB hG ha hb
  generalize htT ta = h1 at *
  generalize htT tb = h2 at *
  generalize cnt ta = n1 at *
  generalize cnt tb = n2 at *
  generalize shw ta = s1 at *
  generalize shw tb = s2 at *
  generalize loT ta = l1 at *
  generalize loT tb = l2 at *
  generalize hiT ta = u1 at *
  generalize hiT tb = u2 at *
  have p3 := ((Ext.refl w).drew).keep p3
  have p4 := ((Ext.refl w).drew).keep p4
  have p5 := ((Ext.refl w).drew).keep p5
  have p6 := ((Ext.refl w).drew).keep p6
  have p7 := ((Ext.refl w).drew).keep p7
  have q3 := ((Ext.refl w).drew).keep q3
  have q4 := ((Ext.refl w).drew).keep q4
  have q5 := ((Ext.refl w).drew).keep q5
  have q6 := ((Ext.refl w).drew).keep q6
  have q7 := ((Ext.refl w).drew).keep q7
  go_enter Try.func30, Try.ntmps30
  go_wp2_with fail
  refine wp_region_still_tail 49 (by kernel_rfl) (by kernel_rfl) ?_
  simp only [List.take_succ_cons, List.take_zero, List.drop_succ_cons, List.drop_zero]
  change wpStill Try.prog _ w.drew (fun a' => wpList Try.prog _ _ _ a' w.drew) _ _
  have hx := (Ext.refl w).drew
  have hend2 := Lib.hid (hend.out _ hx)
  clear hend
  generalize w.drew = w2 at *
  repeat still_step
  refine wpStill_nil ?_
  clear p3 p4 p5 p6 p7 q3 q4 q5 q6 q7
  generalize hm : (if h1 < h2 then (h2 : Int) else (h1 : Int)) = m
  generalize hl : (if l2 < l1 then l2 else l1) = l
  generalize hu : (if u1 < u2 then u2 else u1) = u
  have hm' : m = ((max h1 h2 : Nat) : Int) := by rw [← hm]; split <;> omega
  have hl' : min l1 l2 = l := by rw [← hl]; split <;> omega
  have hu' : max u1 u2 = u := by rw [← hu]; split <;> omega
  subst hm'
  rw [hl', hu'] at hend2
  clear hm hl hu hl' hu'
  have hH : max h1 h2 < 100000 := by omega
  generalize max h1 h2 = H at *
  go_wp2
  go_ret
  have e1 : (H : Int) + 1 = ((H + 1 : Nat) : Int) := by omega
  have e2 : (n1 : Int) + (n2 : Int) = ((n1 + n2 : Nat) : Int) := by omega
  have e3 : (s1 : Int) + (s2 : Int) = ((s1 + s2 : Nat) : Int) := by omega
  rw [e1, e2, e3]
  exact hend2.out

/-- a part's height lies in its block -/
theorem AtP.high {G : Nat → Prop} {W : World} {b : Nat} {t : Tr} (h : AtP G W b t) : W.cell? ⟨b, 3, none⟩ = some (Vi (htT t)) := by
  obtain ⟨_, _, _, _, x, _⟩ := h
  exact x.c3
theorem AtP.left {G : Nat → Prop} {W : World} {b : Nat} {x y : Tr} (h : AtP G W b (.node x y)) : ∃ p q, W.cell? ⟨b, 1, none⟩ = some (Vp p) ∧ W.cell? ⟨b, 2, none⟩ = some (Vp q) ∧ AtP G W p x ∧ AtP G W q y := by
  obtain ⟨_, _, _, _, z, v⟩ := h
  obtain ⟨rfl, p, q, rfl, rfl, hp, hq⟩ := v.node
  exact ⟨p, q, z.c1, z.c2, hp, hq⟩
end Go.Proofs.Ytanknhalgoheeaa
