/-
  What is asked of all an index's calls; the law's head by it; no claim stands here. 
-/
import Derived.Test.YtanknhalgoheeaaXIs
namespace Go.Proofs.Ytanknhalgoheeaa
open Go.ChangeShapes Go.WideShapes Go.ChangeAt Go.RowKit Go.Sort
set_option linter.unusedVariables false
attribute [local go_sem] World.cell?_alloc_some

abbrev zX : Xv := ⟨none, 0, 0, none, none, 0, 0, 0, 0, 0⟩
abbrev zeroX : Value := .agg #[.slice none 0 0, .pointer none, .pointer none, Vi 0, Vi 0, Vi 0, Vq 0, Vq 0]
/-- an index's calls; Ix F: this value has these entries, and reads no blocks but F's -/
structure IxW (Ix : (Nat → Prop) → World → Value → List En → Prop) : Prop where
  r : ∀ F, IxR (Ix F)
  frame : ∀ {F : Nat → Prop} {W W' : World} {v : Value} {l : List En}, Ix F W v l → (∀ b, F b → W'.heap[b]? = W.heap[b]?) → Ix F W' v l
  lt : ∀ {F : Nat → Prop} {W : World} {v : Value} {l : List En} {b : Nat}, Ix F W v l → F b → b < W.heap.size
  shape : ∀ {F : Nat → Prop} {W : World} {v : Value} {l : List En}, Ix F W v l → ∃ x : Xv, v = ixv x
  zero : ∀ W : World, Ix (fun _ => False) W zeroX []
  of : ∀ (W : World) (A : Option Addr) (n c : Nat) (l : List En), EnS W A l → l.length = n → n ≤ c → n ≤ 1000 → apart l = true → (∀ x ∈ l, wfE x) →
    Calls Try.prog 7 #[.slice A n c] W fun e w' => ∃ F v, e = .returned v ∧ Ix F w' v l ∧ (∀ b, F b → W.heap.size ≤ b) ∧ Ext W w'
  put : ∀ (F : Nat → Prop) (W : World) (v : Value) (l : List En) (p : Nat) (x : En), Ix F W v l → l.length ≤ 999 → apart l = true → (∀ x ∈ l, wfE x) → wfE x → p ≤ l.length → hasE l x.c x.k = false →
    Calls Try.prog 12 #[v, Vi (p : Int), env x] W fun e w' => ∃ F' v', e = .returned (.tuple #[v', .nilIface]) ∧ Ix F' w' v' (putE l p x) ∧ (∀ b, F' b → F b ∨ W.heap.size ≤ b) ∧ Ext W w'
  putRange : ∀ (F : Nat → Prop) (W : World) (v : Value) (l : List En) (z : Int) (x : En), Ix F W v l → l.length ≤ 1000 → -2 ≤ z ∧ z ≤ 2000 → (z < 0 ∨ (l.length : Int) < z) →
    Calls Try.prog 12 #[v, Vi z, env x] W fun e w' => e = .returned (.tuple #[zeroX, errv 3]) ∧ Ext W w'
  putArg : ∀ (F : Nat → Prop) (W : World) (v : Value) (l : List En) (p : Nat) (x : En), Ix F W v l → l.length ≤ 1000 → p ≤ l.length → hasE l x.c x.k = true →
    Calls Try.prog 12 #[v, Vi (p : Int), env x] W fun e w' => e = .returned (.tuple #[zeroX, errv 1]) ∧ Ext W w'
  hide : ∀ (F : Nat → Prop) (W : World) (v : Value) (l : List En) (c k : Int) (q : Nat), Ix F W v l → l.length ≤ 1000 → apart l = true → (∀ x ∈ l, wfE x) → findE l c k = some q →
    Calls Try.prog 11 #[v, idv c k] W fun e w' => ∃ F' v', e = .returned (.tuple #[v', .nilIface]) ∧ Ix F' w' v' (hideE l c k) ∧ (∀ b, F' b → F b ∨ W.heap.size ≤ b) ∧ Ext W w'
  hideNo : ∀ (F : Nat → Prop) (W : World) (v : Value) (l : List En) (c k : Int), Ix F W v l → l.length ≤ 1000 → findE l c k = none →
    Calls Try.prog 11 #[v, idv c k] W fun e w' => e = .returned (.tuple #[zeroX, errv 1]) ∧ Ext W w'
theorem IxW.ext {Ix : (Nat → Prop) → World → Value → List En → Prop} (M : IxW Ix) {F : Nat → Prop} {W W' : World} {v : Value} {l : List En} (h : Ix F W v l) (hx : Ext W W') : Ix F W' v l := (M.r F).ext h hx

set_option maxRecDepth 100000 in
set_option maxHeartbeats 4000000 in
theorem up7_any {Ix : (Nat → Prop) → World → Value → List En → Prop} (M : IxW Ix) (w : World) : Calls Try.prog 5 #[] w fun e w' => e = .returned (.bool true) ∧ Ext w w' := by
  have hput := Lib.hid (fun W => M.put _ W zeroX [] 0 ⟨1, 0, 0, false⟩ (M.zero W) (by simp) rfl (by simp) (by unfold wfE; simp) (by simp) rfl)
  have hlen0 := Lib.hid (fun W => (M.r _).len W zeroX [] (M.zero W) (by simp))
  go_enter Try.func5, Try.ntmps5
  go_wp2_with fail
  refine (hput.out _).mono ?_
  rintro e w1 ⟨F, v, rfl, hI, _, x1⟩
  obtain ⟨xv, rfl⟩ := M.shape hI
  have ha := (Bx.new w zX 31).ext x1
  have y1 : Ext w w1 := ((Ext.refl _).alloc _).trans x1
  have xa1 : Ext w1 (w1.alloc (.cells #[.slice xv.A xv.n xv.c, .pointer xv.l, .pointer xv.r, Vi xv.h, Vi xv.m, Vi xv.s, Vq xv.lo, Vq xv.hi] 31)) := (Ext.refl _).alloc _
  obtain ⟨a0, a1, a2, a3, a4, a5, a6, a7⟩ := ha.ext xa1
  have hb := Lib.hid (Bx.new w1 xv 31)
  have hI1 := Lib.hid (M.ext hI xa1)
  have y2 := y1.trans xa1
  clear hput x1 xa1 hI ha
  go_wp2_with fail
  refine (hlen0.out _).mono ?_
  rintro e w2 ⟨rfl, x2⟩
  clear a0 a1 a2 a3 a4 a5 a6 a7
  obtain ⟨b0, b1, b2, b3, b4, b5, b6, b7⟩ := hb.out.ext x2
  have hl1 := Lib.hid ((M.r F).len w2 _ _ (M.ext hI1.out x2) (by simp [putE]))
  go_wp2_with fail
  refine hl1.out.mono ?_
  rintro e w3 ⟨rfl, x3⟩
  rw [show (putE [] 0 (⟨1, 0, 0, false⟩ : En)).length = 1 from rfl]
  clear b0 b1 b2 b3 b4 b5 b6 b7
  obtain ⟨b0, b1, b2, b3, b4, b5, b6, b7⟩ := hb.out.ext (x2.trans x3)
  have hs1 := Lib.hid ((M.r F).shown w3 _ _ (M.ext hI1.out (x2.trans x3)) (by simp [putE]))
  go_wp2_with fail
  refine hs1.out.mono ?_
  rintro e w4 ⟨rfl, x4⟩
  rw [show (shownE (putE [] 0 (⟨1, 0, 0, false⟩ : En))).length = 1 from rfl]
  go_wp2
  go_ret
  exact ⟨rfl, ((y2.trans x2).trans x3).trans x4⟩

end Go.Proofs.Ytanknhalgoheeaa
