/-
  The reference's queue, as one that is changed in place; no claim stands here.
-/
import Derived.Test.YtfcoidpkhggnpaaSbQ
import Derived.Test.YtfcoidpkhggnpaaSoft8
namespace Go.Proofs.Ytfcoidpkhggnpaa
open Go.ChangeShapes Go.WideShapes Go.ChangeAt Go.RowKit Go.Sort
set_option linter.unusedVariables false
attribute [local go_sem] World.cell?_alloc_some

/-- only one row's block may have turned -/
def ROm (row : Option Nat) (W W' : World) : Prop := W.grownBy W' row
theorem ROm.trans {row : Option Nat} {a b c : World} (h : ROm row a b) (k : ROm row b c) : ROm row a c :=
  ⟨k.os.trans h.os, k.tape.trans h.tape, k.output.trans h.output, Nat.le_trans h.size k.size, fun j hj hne => (k.block j (Nat.lt_of_lt_of_le hj h.size) hne).trans (h.block j hj hne)⟩
theorem ROm.ext {row : Option Nat} {a b : World} (h : Ext a b) : ROm row a b := ⟨RowKit.Below.os h, RowKit.Below.tape h, RowKit.Below.output h, h.size, fun k hk _ => RowKit.Below.block h k hk⟩
theorem ROm.size {row : Option Nat} {a b : World} (h : ROm row a b) : a.heap.size ≤ b.heap.size := World.grownBy.size h
theorem ROm.cell {row : Option Nat} {q j : Nat} {W W' : World} {x : Value} (h : ROm row W W') (hc : W.cell? ⟨q, j, none⟩ = some x) (hne : some q ≠ row) : W'.cell? ⟨q, j, none⟩ = some x := by
  rw [World.cell?_of_block (w := W) (w' := W') (a := ⟨q, j, none⟩) (World.grownBy.block h q (World.block_lt_of_cell? _ _ hc) hne)]; exact hc
theorem ROm.blk {row : Option Nat} {q : Nat} {W W' : World} {o : Obj} (h : ROm row W W') (hc : W.heap[q]? = some o) (hne : some q ≠ row) : W'.heap[q]? = some o := by
  rw [World.grownBy.block h q (Array.getElem?_eq_some_iff.1 hc).1 hne]; exact hc
/-- append of messages -/
theorem app_M (w0 w : World) (ty : TypeId) (v : Value) (l : List Ms) (hown : OwnM w0 w v l) (hx : w0.heap.size ≤ w.heap.size) (A : Option Addr) (m c : Nat) (r : List Ms) (hm : r.length = m) (hr : MsS w A r) (hb : l.length + r.length ≤ 100000) :
    ∃ v' w', (Builtin.append_ #[31, 31] ty #[v, .slice A m c]).run Try.prog w = .ok v' w' ∧ OwnM w0 w' v' (l ++ r) ∧ w.grownBy w' v.ownBlock ∧ (v'.ownBlock = v.ownBlock ∨ v'.ownBlock = some w.heap.size) := by
  obtain ⟨i, hi, hz0, hz1, hz2⟩ := info_parts infoM
  subst hm
  obtain ⟨v', w', hrun, h2, h3, h4⟩ := run_append_rowB (P := Try.prog) w w0.heap.size 31 ty 38 i _ 6 64 Try.underlying31 hi hz0 hz1 hz2 rfl (by omega) v l.length _ hown A r.length c _ (flat_len encM_len r) hr (flat_one_cell encM_one r)
    (by unfold maxLen; omega) (by omega) hx
  refine ⟨v', w', hrun, ?_, h3, h4⟩
  unfold OwnM OwnG
  rw [flat_append, List.length_append]
  exact h2
theorem MsS.box {W : World} {q : Nat} {x : Ms} (h : BoxM W q x) : MsS W (some ⟨q, 0, none⟩) [x] := fun _ => ⟨_, _, rfl, fun j u hu => by rw [← add_at]; exact World.news_of_block h j u hu⟩
theorem OwnM.set {w0 W : World} {v : Value} {l : List Ms} {q : Nat} (h : OwnM w0 W v l) (hne : v.ownBlock ≠ some q) (j : Nat) (u : Value) : OwnM w0 (W.setCell ⟨q, j, none⟩ u) v l := by
  unfold OwnM OwnG at h ⊢
  rcases h with ⟨h1, h2 | ⟨g, cap, cur, h2, h3, h4, h5⟩⟩
  · exact ⟨h1, .inl h2⟩
  · refine ⟨h1, .inr ⟨g, cap, cur, h2, h3, ?_, h5⟩⟩
    have hgq : g ≠ q := fun e => hne (by rw [h2, ← e]; rfl)
    rw [Below.heap_setCell _ _ _ _ hgq]; exact h4

/-- what the slots hold -/
def sbrTab (w0 : World) (q sA : Nat) (R0 : Option Addr) (n0 c0 : Nat) (row : Option Nat) (X : List Ms) (x : Ms) : SoftTab := [(22, fun z9 W => z9 = .pointer (some ⟨q, 0, none⟩)),
  (23, fun z9 W => z9 = .pointer (some ⟨q, 0, none⟩)),
  (24, fun z9 W => z9 = .pointer (some ⟨q, 0, none⟩)),
  (25, fun z9 W => z9 = .pointer (some ⟨q, 0, none⟩)),
  (26, fun z9 W => z9 = .slice R0 n0 c0),
  (27, fun z9 W => z9 = msv x),
  (28, fun z9 W => ∃ p, z9 = .slice (some ⟨p, 0, none⟩) 1 1 ∧ some p ≠ row ∧ BoxM W p x),
  (29, fun z9 W => OwnM w0 W z9 (X ++ [x]) ∧ (z9.ownBlock = row ∨ ∃ p, z9.ownBlock = some p ∧ sA ≤ p)),
  (30, fun z9 W => z9 = .pointer (some ⟨q, 0, none⟩)),
  (31, fun z9 W => z9 = .pointer (some ⟨q, 0, none⟩))]
theorem sbrTab_mono (w0 : World) (q sA : Nat) (R0 : Option Addr) (n0 c0 : Nat) (row : Option Nat) (X : List Ms) (x : Ms) : SoftMonoX (ROm row) 7 (sbrTab w0 q sA R0 n0 c0 row X x) := by
  constructor
  · intro j d R hk v W W' h hx
    match j, hk with
    | 0, hk => cases hk; exact h
    | 1, hk => cases hk; exact h
    | 2, hk => cases hk; exact h
    | 3, hk => cases hk; exact h
    | 4, hk => cases hk; exact h
    | 5, hk => cases hk; exact h
    | 6, hk => cases hk; obtain ⟨p, h1, h2, h3⟩ := h; exact ⟨p, h1, h2, (RowKit.Below.block hx p (Array.getElem?_eq_some_iff.1 h3).1).trans h3⟩
    | 7, hk => cases hk; exact ⟨h.1.ext hx, h.2⟩
    | 8, hk => cases hk; exact h
    | 9, hk => cases hk; exact h
    | n + 10, hk => simp [sbrTab] at hk
  · intro j d R hk hne v W W' h hx
    match j, hk with
    | 0, hk => cases hk; exact h
    | 1, hk => cases hk; exact h
    | 2, hk => cases hk; exact h
    | 3, hk => cases hk; exact h
    | 4, hk => cases hk; exact h
    | 5, hk => cases hk; exact h
    | 6, hk => cases hk; obtain ⟨p, h1, h2, h3⟩ := h; exact ⟨p, h1, h2, (ROm.blk hx h3 h2)⟩
    | 7, hk => exact absurd rfl hne
    | 8, hk => cases hk; exact h
    | 9, hk => cases hk; exact h
    | n + 10, hk => simp [sbrTab] at hk

/-- the block of a queue of the reference's -/
def BxQ (W : World) (q : Nat) (v : Value) (k : Nat) (g : Bool) : Prop := W.heap[q]? = some (.cells #[v, Vi (k : Int), .bool g] 33 (0, 0))
theorem BxQ.cells {W : World} {q : Nat} {v : Value} {k : Nat} {g : Bool} (h : BxQ W q v k g) : W.cell? ⟨q, 0, none⟩ = some v ∧ W.cell? ⟨q, 1, none⟩ = some (Vi (k : Int)) ∧ W.cell? ⟨q, 2, none⟩ = some (.bool g) :=
  ⟨by rw [cell_of_row W q 0 _ _ _ h]; rfl, by rw [cell_of_row W q 1 _ _ _ h]; rfl, by rw [cell_of_row W q 2 _ _ _ h]; rfl⟩
theorem BxQ.thaw {W : World} {q : Nat} {v : Value} {k : Nat} {g : Bool} (h : BxQ W q v k g) (j : Nat) : W.frozen? ⟨q, j, none⟩ = false := frozen_of_row W q j _ _ h
theorem BxQ.lt {W : World} {q : Nat} {v : Value} {k : Nat} {g : Bool} (h : BxQ W q v k g) : q < W.heap.size := (Array.getElem?_eq_some_iff.1 h).1
theorem BxQ.setL {W : World} {q : Nat} {v : Value} {k : Nat} {g : Bool} (h : BxQ W q v k g) (u : Value) : BxQ (W.setCell ⟨q, 0, none⟩ u) q u k g := heap_setCell_same W q 0 _ _ _ h
theorem BxQ.setG {W : World} {q : Nat} {v : Value} {k : Nat} {g : Bool} (h : BxQ W q v k g) (b : Bool) : BxQ (W.setCell ⟨q, 2, none⟩ (.bool b)) q v k b := heap_setCell_same W q 2 _ _ _ h
theorem BxQ.ext {W W' : World} {q : Nat} {v : Value} {k : Nat} {g : Bool} (h : BxQ W q v k g) (hx : Ext W W') : BxQ W' q v k g := by
  unfold BxQ at h ⊢
  rw [RowKit.Below.block hx q (Array.getElem?_eq_some_iff.1 h).1]; exact h
theorem TSb.set {S : Nat → Prop} (W : World) {q : Nat} (hq : S q) (j : Nat) (u : Value) : TSb S W (W.setCell ⟨q, j, none⟩ u) := by
  have hb : Below 0 W (W.setCell ⟨q, j, none⟩ u) := Below.setCell (Below.refl 0 W) (Nat.zero_le _) u
  exact ⟨RowKit.Below.os hb, RowKit.Below.tape hb, RowKit.Below.output hb, RowKit.Below.size hb, fun k hk hn => Below.heap_setCell _ _ _ _ (fun e => hn (e ▸ hq))⟩
theorem TSb.grown {S : Nat → Prop} {W W' : World} {row : Option Nat} (h : W.grownBy W' row) (hr : ∀ k, row = some k → k < W.heap.size → S k) : TSb S W W' :=
  ⟨h.os, h.tape, h.output, World.grownBy.size h, fun k hk hn => World.grownBy.block h k hk fun e => hn (hr k e.symm hk)⟩
/-- the reference's queue, in its block -/
def RfQ (W : World) (p : Value) (k : Nat) (l : List Ms) (g : Bool) (S : Nat → Prop) : Prop :=
  ∃ (q : Nat) (v : Value) (w0 : World), p = .pointer (some ⟨q, 0, none⟩) ∧ BxQ W q v k g ∧ OwnM w0 W v l ∧ w0.heap.size ≤ W.heap.size ∧ v.ownBlock ≠ some q ∧ ∀ b, S b ↔ b = q ∨ v.ownBlock = some b

set_option maxRecDepth 100000 in
set_option maxHeartbeats 8000000 in
theorem pushRf {W0 : World} {p : Value} {k : Nat} {l : List Ms} {g : Bool} {S : Nat → Prop} (x : Ms) (h : RfQ W0 p k l g S) (hl : l.length ≤ 1000) (hk : k ≤ 1000) :
    Calls Try.prog 13 #[p, msv x] W0 fun e W' => e = .returned (.bool (okP k l g)) ∧ ∃ S', RfQ W' p k (nxL k l g x) (nxG k l g) S' ∧ TSb S W0 W' ∧ ∀ b, S' b → S b ∨ W0.heap.size ≤ b := by
  obtain ⟨q, v, w0, rfl, hbx, ho, hw0, hvq, hS⟩ := h
  have hqlt := hbx.lt
  have ba : BoxM (W0.alloc (.cells #[Vi x.v, .bool x.w, Vs x.t, Vi x.a, Vi x.d, Vs x.i] 38)) W0.heap.size x := heap_alloc_new W0 _
  have x0 : Ext W0 (W0.alloc (.cells #[Vi x.v, .bool x.w, Vs x.t, Vi x.a, Vi x.d, Vs x.i] 38)) := (Ext.refl _).alloc _
  obtain ⟨pa, hpa⟩ : ∃ pa, W0.heap.size = pa := ⟨_, rfl⟩
  rw [hpa] at ba
  replace hbx := hbx.ext x0
  have hrl := Lib.hid (fun b (hb : v.ownBlock = some b) => (OwnM.lt ho b hb).2)
  replace ho := ho.ext x0
  obtain ⟨R0, c0, hv0, hc0, _⟩ := ho.open
  obtain ⟨n0, hn0⟩ : ∃ n, l.length = n := ⟨_, rfl⟩
  rw [hn0] at hv0 hl
  subst hv0
  obtain ⟨n1, n2, n3⟩ := hbx.cells
  have f0 := hbx.thaw 0
  have f2 := hbx.thaw 2
  have hok : okP k l g = (!g && decide (n0 < k)) := by unfold okP; rw [hn0]
  replace hn0 := Lib.hid hn0
  replace hbx := Lib.hid hbx
  replace ho := Lib.hid ho
  replace hS := Lib.hid hS
  go_enter Try.func13, Try.ntmps13
  go_wp2_with fail
  generalize W0.alloc (.cells #[Vi x.v, .bool x.w, Vs x.t, Vi x.a, Vi x.d, Vs x.i] 38) = s1 at *
  by_cases hlen : k ≤ n0
  · have hno : okP k l g = false := by rw [hok, decide_eq_false (by omega), Bool.and_false]
    have hnl : nxL k l g x = l := by unfold nxL; rw [hno]; rfl
    have hng : nxG k l g = true := by unfold nxG; rw [hno]; rfl
    have hfin := Lib.hid (fun d : Nat => show RfQ ((s1.drewN d).setCell ⟨q, 2, none⟩ (.bool true)) (.pointer (some ⟨q, 0, none⟩)) k l true S ∧ TSb S W0 ((s1.drewN d).setCell ⟨q, 2, none⟩ (.bool true)) from by
      have hb := hbx.out.ext ((Ext.refl s1).drewN d)
      have hoo := ho.out.ext ((Ext.refl s1).drewN d)
      refine ⟨⟨q, _, w0, rfl, hb.setG true, hoo.set hvq 2 _, ?_, hvq, hS.out⟩, ?_⟩
      · have h1 := (TSb.set (S := S) (s1.drewN d) ((hS.out q).2 (.inl rfl)) 2 (.bool true)).size
        have h2 := (x0.drewN d).size
        omega
      · exact (TSb.ext (x0.drewN d)).trans (TSb.set _ ((hS.out q).2 (.inl rfl)) 2 _) (fun _ _ h => h))
    have hkl : decide ((k : Int) ≤ (n0 : Int)) = true := decide_eq_true (by omega)
    clear hbx ho hok
    go_quiet (fail)
    go_wp2
    go_ret
    exact ⟨by rw [hno]; rfl, S, by rw [hnl, hng]; exact (hfin.out _).1, (hfin.out _).2, fun b hb => .inl hb⟩
  · cases g with
    | true =>
      have hno : okP k l true = false := rfl
      have hnl : nxL k l true x = l := rfl
      have hng : nxG k l true = true := rfl
      have hfin := Lib.hid (fun d : Nat => show RfQ (s1.drewN d) (.pointer (some ⟨q, 0, none⟩)) k l true S ∧ TSb S W0 (s1.drewN d) from by
        have hb := hbx.out.ext ((Ext.refl s1).drewN d)
        have hoo := ho.out.ext ((Ext.refl s1).drewN d)
        exact ⟨⟨q, _, w0, rfl, hb, hoo, Nat.le_trans hw0 (x0.drewN d).size, hvq, hS.out⟩, TSb.ext (x0.drewN d)⟩)
      clear hbx ho hok
      go_quiet (fail)
      go_wp2
      go_ret
      exact ⟨by rw [hno]; rfl, S, by rw [hnl, hng]; exact (hfin.out _).1, (hfin.out _).2, fun b hb => .inl hb⟩
    | false =>
      have hno : okP k l false = true := by rw [hok, decide_eq_true (by omega)]; rfl
      have hnl : nxL k l false x = l ++ [x] := by unfold nxL; rw [hno]; rfl
      have hng : nxG k l false = false := by unfold nxG; rw [hno]; rfl
      have hkl : decide ((k : Int) ≤ (n0 : Int)) = false := decide_eq_false (by omega)
      go_quiet (fail)
      have xs := (Ext.refl s1).drewN nq
      generalize s1.drewN nq = s0 at *
      replace hbx := hbx.out.ext xs
      replace ho := ho.out.ext xs
      replace ba := ba.ext xs
      have x1 := x0.trans xs
      clear n1 n2 n3 f0 f2 hno hok
      obtain ⟨n1, n2, n3⟩ := hbx.cells
      obtain ⟨a0, a1, a2, a3, a4, a5⟩ := ba.cells
      simp only [Nat.zero_add] at a1 a2 a3 a4 a5
      obtain ⟨row, hvb⟩ : ∃ row, (Value.slice R0 n0 c0).ownBlock = row := ⟨_, rfl⟩
      rw [hvb] at hrl hvq
      have hqr : some q ≠ row := fun e => hvq e.symm
      have hpr : some pa ≠ row := fun e => by have := hrl.out pa e.symm; omega
      have hS' : ∀ b, S b ↔ b = q ∨ row = some b := by have := hS.out; rw [hvb] at this; exact this
      have hlt := Lib.hid (fun (z : Nat) (hz : s0.heap.size ≤ z) => show some z ≠ row from fun e => by have := hrl.out z e.symm; have := x1.size; omega)
      obtain ⟨sA, hsA⟩ : ∃ s, s0.heap.size = s := ⟨_, rfl⟩
      replace hsA := Lib.hid hsA
      have hXl := Lib.hid (show l.length + 1 ≤ 100000 by rw [hn0.out]; omega)
      have hBw := Lib.hid (show w0.heap.size ≤ s0.heap.size from Nat.le_trans hw0 x1.size)
      have hown := Lib.hid ho
      have hX0 := hn0
      have hq0 := Lib.hid hqlt
      have hbxh := Lib.hid hbx
      have hx1 := Lib.hid x1
      have hSh := Lib.hid hS'
      have hres := Lib.hid (show nxL k l false x = l ++ [x] ∧ nxG k l false = false ∧ okP k l false = true from ⟨hnl, hng, by unfold okP; rw [hn0.out, decide_eq_true (by omega)]; rfl⟩)
      have hpah := Lib.hid hpa
      replace hvb := Lib.hid hvb
      clear hbx ho ba n2 hnl hng hS hS' x0 xs x1 hpa hqlt hn0
      go_wp2_with fail
      refine wp_soft_frameX (ROm row) 7 (fun W => OwnM w0 W (.slice R0 n0 c0) l) (fun _ => True) 10 (sbrTab w0 q sA R0 n0 c0 row l x) (by kernel_rfl) (by kernel_rfl) (fun _ _ _ => ROm.trans) (fun _ _ => ROm.ext) (fun _ _ h hh => hh.ext h) (fun _ _ _ _ => trivial) (by omega) hown.out rfl (by show List.Nodup [22, 23, 24, 25, 26, 27, 28, 29, 30, 31]; decide) (by show ∀ d ∈ [22, 23, 24, 25, 26, 27, 28, 29, 30, 31], d < 32; decide) (sbrTab_mono w0 q sA R0 n0 c0 row l x) ?_ ⟨?_, ?_, ?_, ?_, ?_, ?_, ?_, ?_, ?_, ?_, trivial⟩
      · intro W vs hT hR _
        match vs, hT with
        | [v0, v1, v2, v3, v4, v5, v6, v7, v8, v9], ⟨e0, e1, e2, e3, e4, e5, e6, e7, e8, e9, _⟩ =>
          simp only [sbrTab, List.map_cons, List.map_nil, List.zip_cons_cons, List.zip_nil_left, putAll, List.setIfInBounds_toArray, List.set_cons_zero, List.set_cons_succ, List.drop_succ_cons, List.drop_zero]
          simp only at e0 e1 e2 e3 e4 e5 e8 e9
          obtain ⟨q6, e6, h6⟩ := e6
          rw [e0, e1, e2, e3, e4, e5, e6, e8, e9]
          clear e0 e1 e2 e3 e4 e5 e6 e8 e9 v0 v1 v2 v3 v4 v5 v6 v8 v9
          obtain ⟨o9, b9⟩ := e7
          obtain ⟨A9, c9, hv9, hc9, _⟩ := o9.open
          rw [List.length_append, List.length_singleton, hX0.out] at hv9 hc9
          subst hv9
          have hB9 : BxQ W q (.slice R0 n0 c0) k false := ROm.blk hR hbxh.out hqr
          have f9 := hB9.thaw 0
          have n9 := hB9.cells.1
          have hv9q : (Value.slice A9 (n0 + 1) c9).ownBlock ≠ some q := fun e => by
            rcases b9 with h | ⟨p, h, hp⟩
            · exact hqr (e ▸ h).symm.symm
            · rw [h] at e
              injection e with e
              have := hsA.out
              have := hx1.out.size
              have := hq0.out
              omega
          have hfin := Lib.hid (show RfQ (W.setCell ⟨q, 0, none⟩ (.slice A9 (n0 + 1) c9)) (.pointer (some ⟨q, 0, none⟩)) k (l ++ [x]) false (fun b => b = q ∨ (Value.slice A9 (n0 + 1) c9).ownBlock = some b) ∧ TSb S W0 (W.setCell ⟨q, 0, none⟩ (.slice A9 (n0 + 1) c9)) from by
            refine ⟨⟨q, _, w0, rfl, hB9.setL _, o9.set hv9q 0 _, ?_, hv9q, fun b => Iff.rfl⟩, ?_⟩
            · have h1 := (TSb.set (S := S) W ((hSh.out q).2 (.inl rfl)) 0 (.slice A9 (n0 + 1) c9)).size
              have h2 := ROm.size hR
              have h3 := hBw.out
              omega
            · exact ((TSb.ext hx1.out).trans (TSb.grown hR (fun b hb _ => (hSh.out b).2 (.inr hb))) (fun _ _ h => h)).trans (TSb.set _ ((hSh.out q).2 (.inl rfl)) 0 _) (fun _ _ h => h))
          have hup := Lib.hid (show ∀ b, b = q ∨ (Value.slice A9 (n0 + 1) c9).ownBlock = some b → S b ∨ W0.heap.size ≤ b from fun b hb => by
            rcases hb with rfl | hb
            · exact .inl ((hSh.out _).2 (.inl rfl))
            · rcases b9 with h | ⟨p, h, hp⟩
              · exact .inl ((hSh.out b).2 (.inr (by rw [← h, hb])))
              · rw [h] at hb
                injection hb with hb
                have := hsA.out
                have := hx1.out.size
                exact .inr (by omega))
          clear hT o9 b9 hB9 hv9q h6 n1
          go_wp2
          go_ret
          obtain ⟨z1, z2, z3⟩ := hres.out
          exact ⟨by rw [z3]; rfl, _, by rw [z1, z2]; exact hfin.out.1, hfin.out.2, hup.out⟩
      · rw [if_neg (by decide)]
        refine softP_val 22 _ (by kernel_rfl) rfl rfl ?_
        intro a W hx hout hdep
        have ev0 : a.tmps[0]?.getD undef = .pointer (some ⟨q, 0, none⟩) := by rw [← Array.getD_eq_getD_getElem?]; exact hout 0 (by show 0 ∉ [22, 23, 24, 25, 26, 27, 28, 29, 30, 31]; decide)
        refine ⟨rfl, .pointer (some ⟨q, 0, none⟩), W, ?_, rfl, Ext.refl _⟩
        simp [ev0, execOp, go_sem]
      · rw [if_neg (by decide)]
        refine softP_val 23 _ (by kernel_rfl) rfl rfl ?_
        intro a W hx hout hdep
        have ev0 : a.tmps[0]?.getD undef = .pointer (some ⟨q, 0, none⟩) := by rw [← Array.getD_eq_getD_getElem?]; exact hout 0 (by show 0 ∉ [22, 23, 24, 25, 26, 27, 28, 29, 30, 31]; decide)
        refine ⟨rfl, .pointer (some ⟨q, 0, none⟩), W, ?_, rfl, Ext.refl _⟩
        simp [ev0, execOp, go_sem]
      · rw [if_neg (by decide)]
        refine softP_val 24 _ (by kernel_rfl) rfl rfl ?_
        intro a W hx hout hdep
        have ev23 : a.tmps[23]?.getD undef = .pointer (some ⟨q, 0, none⟩) := by rw [← Array.getD_eq_getD_getElem?]; exact (hdep ⟨1, .data⟩ (by simp) rfl 23 _ rfl).1
        refine ⟨rfl, .pointer (some ⟨q, 0, none⟩), W, ?_, rfl, Ext.refl _⟩
        simp [ev23, execOp, go_sem]
      · rw [if_neg (by decide)]
        refine softP_val 25 _ (by kernel_rfl) rfl rfl ?_
        intro a W hx hout hdep
        have ev24 : a.tmps[24]?.getD undef = .pointer (some ⟨q, 0, none⟩) := by rw [← Array.getD_eq_getD_getElem?]; exact (hdep ⟨2, .data⟩ (by simp) rfl 24 _ rfl).1
        refine ⟨rfl, .pointer (some ⟨q, 0, none⟩), W, ?_, rfl, Ext.refl _⟩
        simp [ev24, execOp, go_sem]
      · rw [if_neg (by decide)]
        refine softP_val 26 _ (by kernel_rfl) rfl rfl ?_
        intro a W hx hout hdep
        have ev25 : a.tmps[25]?.getD undef = .pointer (some ⟨q, 0, none⟩) := by rw [← Array.getD_eq_getD_getElem?]; exact (hdep ⟨3, .data⟩ (by simp) rfl 25 _ rfl).1
        have q0 := ROm.cell hx n1 hqr
        refine ⟨rfl, .slice R0 n0 c0, W, ?_, rfl, Ext.refl _⟩
        simp [ev25, q0, execOp, go_sem]
      · rw [if_neg (by decide)]
        refine softP_val 27 _ (by kernel_rfl) rfl rfl ?_
        intro a W hx hout hdep
        have ev3 : a.tmps[3]?.getD undef = .pointer (some ⟨pa, 0, none⟩) := by rw [← Array.getD_eq_getD_getElem?]; exact hout 3 (by show 3 ∉ [22, 23, 24, 25, 26, 27, 28, 29, 30, 31]; decide)
        have q0 := ROm.cell hx a0 hpr
        have q1 := ROm.cell hx a1 hpr
        have q2 := ROm.cell hx a2 hpr
        have q3 := ROm.cell hx a3 hpr
        have q4 := ROm.cell hx a4 hpr
        have q5 := ROm.cell hx a5 hpr
        refine ⟨rfl, msv x, W, ?_, rfl, Ext.refl _⟩
        simp [ev3, q0, q1, q2, q3, q4, q5, execOp, go_sem]
      · rw [if_neg (by decide)]
        refine softP_val 28 _ (by kernel_rfl) rfl rfl ?_
        intro a W hx hout hdep
        have ev27 : a.tmps[27]?.getD undef = msv x := by rw [← Array.getD_eq_getD_getElem?]; exact (hdep ⟨5, .data⟩ (by simp) rfl 27 _ rfl).1
        refine ⟨rfl, .slice (some ⟨W.heap.size, 0, none⟩) 1 1, _, ?_, ⟨_, rfl, hlt.out _ (ROm.size hx), heap_alloc_new W _⟩, (Ext.refl W).alloc _⟩
        simp [ev27, execOp, go_sem]
      · rw [if_pos rfl]
        refine softX_val 29 _ (by kernel_rfl) rfl rfl ?_
        intro a W hx hpre hout hdep
        have ev26 : a.tmps[26]?.getD undef = .slice R0 n0 c0 := by rw [← Array.getD_eq_getD_getElem?]; exact (hdep ⟨4, .data⟩ (by simp) rfl 26 _ rfl).1
        have tl28 := (hdep ⟨6, .data⟩ (by simp) rfl 28 _ rfl).1
        obtain ⟨p, hq1, hq2, hq3⟩ := tl28
        obtain ⟨v', W1, hr1, hr2, hr3, hr4⟩ := app_M w0 W 31 (.slice R0 n0 c0) l hpre (Nat.le_trans hBw.out (ROm.size hx)) (some ⟨p, 0, none⟩) 1 1 [x] rfl (MsS.box hq3) (by simp only [List.length_cons, List.length_nil]; exact hXl.out)
        rw [hvb.out] at hr3 hr4
        refine ⟨rfl, v', W1, ?_, ⟨hr2, hr4.imp id (fun e => ⟨_, e, Nat.le_trans (Nat.le_of_eq hsA.out.symm) (ROm.size hx)⟩)⟩, hr3, trivial⟩
        rw [← Array.getD_eq_getD_getElem?] at ev26
        simp only [execOp, resolve, invoke, builtin, Sem.run_bind, Sem.run_pure, Result.andThen_ok, List.map_toArray, List.map_cons, List.map_nil, Act.eval, ev26, hq1, hr1]
      · rw [if_neg (by decide)]
        refine softP_val 30 _ (by kernel_rfl) rfl rfl ?_
        intro a W hx hout hdep
        have ev22 : a.tmps[22]?.getD undef = .pointer (some ⟨q, 0, none⟩) := by rw [← Array.getD_eq_getD_getElem?]; exact (hdep ⟨0, .data⟩ (by simp) rfl 22 _ rfl).1
        refine ⟨rfl, .pointer (some ⟨q, 0, none⟩), W, ?_, rfl, Ext.refl _⟩
        simp [ev22, execOp, go_sem]
      · rw [if_neg (by decide)]
        refine softP_val 31 _ (by kernel_rfl) rfl rfl ?_
        intro a W hx hout hdep
        have ev30 : a.tmps[30]?.getD undef = .pointer (some ⟨q, 0, none⟩) := by rw [← Array.getD_eq_getD_getElem?]; exact (hdep ⟨8, .data⟩ (by simp) rfl 30 _ rfl).1
        refine ⟨rfl, .pointer (some ⟨q, 0, none⟩), W, ?_, rfl, Ext.refl _⟩
        simp [ev30, execOp, go_sem]

theorem OwnM.zero {w0 W : World} {q : Nat} (h : W.heap[q]? = some (.cells #[] 38 (0, 0))) (hq : w0.heap.size ≤ q) : OwnM w0 W (.slice (some ⟨q, 0, none⟩) 0 0) [] :=
  ⟨by simp [flat], .inr ⟨q, 0, #[], rfl, hq, h, Nat.le_refl _, by unfold maxLen; omega, by simp, by simp [flat]⟩⟩
theorem RfQ.low {W : World} {p : Value} {k : Nat} {l : List Ms} {g : Bool} {S : Nat → Prop} (h : RfQ W p k l g S) : ∀ b, S b → b < W.heap.size := fun b hb => by
  obtain ⟨q, v, w0, rfl, hbx, ho, hw0, hvq, hS⟩ := h
  rcases (hS b).1 hb with rfl | h
  · exact hbx.lt
  · exact (ho.lt b h).2
theorem RfQ.far {W W' : World} {p : Value} {k : Nat} {l : List Ms} {g : Bool} {S : Nat → Prop} (h : RfQ W p k l g S) (hs : W.heap.size ≤ W'.heap.size) (hb : ∀ b, S b → W'.heap[b]? = W.heap[b]?) : RfQ W' p k l g S := by
  obtain ⟨q, v, w0, rfl, hbx, ho, hw0, hvq, hS⟩ := h
  refine ⟨q, v, w0, rfl, ?_, ?_, Nat.le_trans hw0 hs, hvq, hS⟩
  · unfold BxQ at hbx ⊢
    rw [hb q ((hS q).2 (.inl rfl))]; exact hbx
  · unfold OwnM OwnG at ho ⊢
    rcases ho with ⟨h1, h2 | ⟨g, cap, cur, h2, h3, h4, h5⟩⟩
    · exact ⟨h1, .inl h2⟩
    · refine ⟨h1, .inr ⟨g, cap, cur, h2, h3, ?_, h5⟩⟩
      rw [hb g ((hS g).2 (.inr (by rw [h2]; rfl)))]; exact h4

set_option maxRecDepth 100000 in
set_option maxHeartbeats 8000000 in
theorem drainRf {W0 : World} {p : Value} {k : Nat} {l : List Ms} {g : Bool} {S : Nat → Prop} (ver : Int) (text : List UInt8) (h : RfQ W0 p k l g S) (hl : l.length ≤ 1000) :
    Calls Try.prog 11 #[p, Vi ver, Vs text] W0 fun e W' => ∃ (A : Option Addr) (c : Nat) (S' : Nat → Prop), e = .returned (.slice A (outQ l g ver text).length c) ∧ MsS W' A (outQ l g ver text) ∧ (∀ b o, A = some ⟨b, o, none⟩ → outQ l g ver text ≠ [] → S b ∨ W0.heap.size ≤ b) ∧
      RfQ W' p k [] false S' ∧ TSb S W0 W' ∧ ∀ b, S' b → S b ∨ W0.heap.size ≤ b := by
  obtain ⟨q, v, w0, rfl, hbx, ho, hw0, hvq, hS⟩ := h
  have hqlt := Lib.hid hbx.lt
  obtain ⟨R0, c0, hv0, hc0, hR0⟩ := ho.open
  obtain ⟨n0, hn0⟩ : ∃ n, l.length = n := ⟨_, rfl⟩
  rw [hn0] at hv0 hl hc0
  subst hv0
  obtain ⟨n1, n2, n3⟩ := hbx.cells
  have f0 := hbx.thaw 0
  have f2 := hbx.thaw 2
  have hSq := (hS q).2 (.inl rfl)
  cases g with
  | false =>
    have ho0 : outQ l false ver text = l := by unfold outQ; simp
    have hfin := Lib.hid (show RfQ ((W0.setCell ⟨q, 0, none⟩ (.slice none 0 0)).setCell ⟨q, 2, none⟩ (.bool false)) (.pointer (some ⟨q, 0, none⟩)) k [] false (fun b => b = q) ∧ TSb S W0 ((W0.setCell ⟨q, 0, none⟩ (.slice none 0 0)).setCell ⟨q, 2, none⟩ (.bool false)) ∧ MsS ((W0.setCell ⟨q, 0, none⟩ (.slice none 0 0)).setCell ⟨q, 2, none⟩ (.bool false)) R0 l from by
      have ht := (TSb.set (S := S) W0 hSq 0 (.slice none 0 0)).trans (TSb.set (S := S) (W0.setCell ⟨q, 0, none⟩ (.slice none 0 0)) hSq 2 (.bool false)) (fun _ _ h => h)
      refine ⟨⟨q, .slice none 0 0, w0, rfl, (hbx.setL _).setG false, OwnM.nil _ _, Nat.le_trans hw0 ht.size, (fun e => by cases e), fun b => ⟨.inl, fun h => h.elim id (fun e => by cases e)⟩⟩, ht, ?_⟩
      have h9 := (ho.set hvq 0 (.slice none 0 0)).set hvq 2 (.bool false)
      rw [← hn0] at h9
      exact OwnG.row h9)
    have hlo := Lib.hid (show ∀ b o, R0 = some ⟨b, o, none⟩ → S b from fun b o e => (hS b).2 (.inr (by rw [e]; rfl)))
    have hSh := Lib.hid hSq
    clear hbx ho hS hSq hR0
    go_enter Try.func11, Try.ntmps11
    go_wp2
    go_ret
    exact ⟨R0, c0, fun b => b = q, by rw [ho0, hn0]; rfl, by rw [ho0]; exact hfin.out.2.2, fun b o e _ => .inl (hlo.out b o e), hfin.out.1, hfin.out.2.1, fun b hb => .inl (hb ▸ hSh.out)⟩
  | true =>
    have ho0 : outQ l true ver text = l ++ [⟨ver, true, text, 0, 0, []⟩] := rfl
    have hR0' := Lib.hid hR0
    have hfin := Lib.hid (fun (w2 : World) (v2 : Value) (o2 : OwnM W0 w2 v2 (l ++ [⟨ver, true, text, 0, 0, []⟩])) (x2 : Ext W0 w2) => show RfQ ((w2.setCell ⟨q, 0, none⟩ (.slice none 0 0)).setCell ⟨q, 2, none⟩ (.bool false)) (.pointer (some ⟨q, 0, none⟩)) k [] false (fun b => b = q) ∧ TSb S W0 ((w2.setCell ⟨q, 0, none⟩ (.slice none 0 0)).setCell ⟨q, 2, none⟩ (.bool false)) ∧
        ∃ A c, v2 = .slice A (l ++ [(⟨ver, true, text, 0, 0, []⟩ : Ms)]).length c ∧ MsS ((w2.setCell ⟨q, 0, none⟩ (.slice none 0 0)).setCell ⟨q, 2, none⟩ (.bool false)) A (l ++ [⟨ver, true, text, 0, 0, []⟩]) ∧ ∀ b o, A = some ⟨b, o, none⟩ → W0.heap.size ≤ b from by
      have ht := (TSb.set (S := S) w2 hSq 0 (.slice none 0 0)).trans (TSb.set (S := S) (w2.setCell ⟨q, 0, none⟩ (.slice none 0 0)) hSq 2 (.bool false)) (fun _ _ h => h)
      have hbx2 := hbx.ext x2
      refine ⟨⟨q, .slice none 0 0, w0, rfl, (hbx2.setL _).setG false, OwnM.nil _ _, Nat.le_trans hw0 (Nat.le_trans x2.size ht.size), (fun e => by cases e), fun b => ⟨.inl, fun h => h.elim id (fun e => by cases e)⟩⟩, (TSb.ext x2).trans ht (fun _ _ h => h), ?_⟩
      have hne : v2.ownBlock ≠ some q := fun e => by have := (o2.lt q e).1; have := hqlt.out; omega
      have hlt := o2.lt
      obtain ⟨A, c, e2, _, _⟩ := ((o2.set hne 0 (.slice none 0 0)).set hne 2 (.bool false)).open
      have h9 := (o2.set hne 0 (.slice none 0 0)).set hne 2 (.bool false)
      rw [e2] at h9
      exact ⟨A, c, e2, OwnG.row h9, fun b o e => (hlt b (by rw [e2, e]; rfl)).1⟩)
    have hcl := Lib.hid (fun (w2 : World) (x2 : Ext W0 w2) => (hbx.ext x2).cells)
    have hth := Lib.hid (fun (w2 : World) (x2 : Ext W0 w2) (j : Nat) => (hbx.ext x2).thaw j)
    have hSh := Lib.hid hSq
    clear hbx ho hS hSq hR0
    go_enter Try.func11, Try.ntmps11
    go_wp2_with (first
      | (at_builtin
         refine wpList_append_M (w0 := W0) rfl (.tmp 16) (.tmp 17) rfl _ [] rfl (OwnM.zero (heap_alloc_new W0 _) (Nat.le_refl _)) ((Ext.refl W0).alloc _) _ n0 c0 l rfl hn0 (hR0'.out.ext ((Ext.refl W0).alloc _)) (by rw [hn0, List.length_nil]; omega) ?_
         intro v6 w6 o6 x6 g6 e6)
      | (at_builtin
         refine wpList_append_M (w0 := W0) rfl (.tmp 18) (.tmp 22) rfl _ ([] ++ l) rfl (o6.ext ((Ext.refl w6).alloc _)) (x6.alloc _) _ 1 1 [⟨ver, true, text, 0, 0, []⟩] rfl rfl (MsS.new w6 ⟨ver, true, text, 0, 0, []⟩) (by rw [List.nil_append, hn0]; simp only [List.length_cons, List.length_nil]; omega) ?_
         intro v7 w7 o7 x7 g7 e7
         obtain ⟨n1', n2', n3'⟩ := hcl.out w7 x7
         have f0' := hth.out w7 x7 0
         have f2' := hth.out w7 x7 2)
      | fail)
    go_ret
    rw [List.nil_append] at o7
    obtain ⟨z1, z2, A, c, z3, z4, z5⟩ := hfin.out w7 v7 o7 x7
    exact ⟨A, c, fun b => b = q, by rw [ho0, ← z3]; rfl, by rw [ho0]; exact z4, fun b o e _ => .inr (z5 b o e), z1, z2, fun b hb => .inl (hb ▸ hSh.out)⟩
/-- the reference's queue is one of these -/
theorem rf_w : QuW 13 11 RfQ where
  low := RfQ.low
  far := RfQ.far
  push := fun m _ h hl hk => pushRf m h hl hk
  drain := fun ver text _ h hl => drainRf ver text h hl

end Go.Proofs.Ytfcoidpkhggnpaa
