/-
  The landed queue; what the laws of layer 13 ask of it; no claim stands here.
-/
import Derived.Test.YtfcoidpkhggnpaaSbK
import Derived.Test.YtfcoidpkhggnpaaSq1
import Derived.Test.YtfcoidpkhggnpaaLayCl
namespace Go.Proofs.Ytfcoidpkhggnpaa
open Go.ChangeShapes Go.WideShapes Go.ChangeAt Go.RowKit Go.Sort
set_option linter.unusedVariables false
attribute [local go_sem] World.cell?_alloc_some calm calmUpon loudUpon

theorem sclone_sb (l : List UInt8) (hl : l.length ≤ 281474976710656) (w : World) : Calls Try.prog 17 #[Vs l] w fun e w' => e = .returned (Vs l) ∧ Ext w w' :=
  Any.stringslite_Clone Try.laysCln ⟨l.toArray⟩ w (by show l.toArray.size ≤ _; simpa using hl)
theorem clone_sb (l : List UInt8) (hl : l.length ≤ 281474976710656) (w : World) : Calls Try.prog 16 #[Vs l] w fun e w' => e = .returned (Vs l) ∧ Ext w w' := by
  have h := Lib.hid (fun W => sclone_sb l hl W)
  clear hl
  go_enter Try.func16, Try.ntmps16
  go_wp2_with fail
  refine (h.out _).mono ?_
  rintro e w' ⟨rfl, x⟩
  go_wp2
  go_ret
  exact ⟨rfl, x⟩
set_option maxRecDepth 100000 in
set_option maxHeartbeats 4000000 in
theorem own_sb (x : Ms) (hx : SmM x) (w : World) : Calls Try.prog 15 #[msv x] w fun e w' => e = .returned (msv x) ∧ Ext w w' := by
  have h1 := Lib.hid (fun W => clone_sb x.t hx.1 W)
  have h2 := Lib.hid (fun W => clone_sb x.i hx.2 W)
  clear hx
  go_enter Try.func15, Try.ntmps15
  go_wp2_with fail
  have b0 : BoxM (w.alloc (.cells #[Vi x.v, .bool x.w, Vs x.t, Vi x.a, Vi x.d, Vs x.i] 38)) w.heap.size x := heap_alloc_new w _
  have z0 := heap_alloc_new (w.alloc (.cells #[Vi x.v, .bool x.w, Vs x.t, Vi x.a, Vi x.d, Vs x.i] 38)) (.cells #[Vi 0, .bool false, .string ⟨#[]⟩, Vi 0, Vi 0, .string ⟨#[]⟩] 38)
  rw [show (w.alloc (.cells #[Vi x.v, .bool x.w, Vs x.t, Vi x.a, Vi x.d, Vs x.i] 38)).heap.size = w.heap.size + 1 by simp] at z0
  have x1 : Ext w ((w.alloc (.cells #[Vi x.v, .bool x.w, Vs x.t, Vi x.a, Vi x.d, Vs x.i] 38)).alloc (.cells #[Vi 0, .bool false, .string ⟨#[]⟩, Vi 0, Vi 0, .string ⟨#[]⟩] 38)) := ((Ext.refl w).alloc _).alloc _
  replace b0 := b0.ext ((Ext.refl _).alloc (.cells #[Vi 0, .bool false, .string ⟨#[]⟩, Vi 0, Vi 0, .string ⟨#[]⟩] 38))
  generalize (w.alloc (.cells #[Vi x.v, .bool x.w, Vs x.t, Vi x.a, Vi x.d, Vs x.i] 38)).alloc (.cells #[Vi 0, .bool false, .string ⟨#[]⟩, Vi 0, Vi 0, .string ⟨#[]⟩] 38) = w1 at *
  have hp := Lib.hid (Nat.le_refl w.heap.size)
  generalize hq : w.heap.size = pa at b0 z0 ⊢
  rw [hq] at hp
  replace hq := Lib.hid hq
  refine (h1.out _).mono ?_
  rintro e w2 ⟨rfl, x2⟩
  replace b0 := b0.ext x2
  replace z0 := (RowKit.Below.block x2 _ (Array.getElem?_eq_some_iff.1 z0).1).trans z0
  replace x1 := x1.trans x2
  clear x2
  obtain ⟨c0, c1, c2, c3, c4, c5⟩ := b0.cells
  simp only [Nat.zero_add] at c1 c2 c3 c4 c5
  have f2 := frozen_of_row w2 pa 2 _ _ b0
  replace x1 := x1.setCell (p := ⟨pa, 2, none⟩) (by show w.heap.size ≤ pa; rw [hq.out]; exact Nat.le_refl _) (Vs x.t)
  replace b0 : BoxM (w2.setCell ⟨pa, 2, none⟩ (Vs x.t)) pa x := heap_setCell_same w2 pa 2 _ _ _ b0
  replace z0 := (Below.heap_setCell w2 ⟨pa, 2, none⟩ (Vs x.t) _ (show pa + 1 ≠ pa by omega)).trans z0
  replace b0 := Lib.hid b0
  replace z0 := Lib.hid z0
  replace x1 := Lib.hid x1
  go_wp2_with fail
  replace b0 := b0.out
  replace z0 := z0.out
  replace x1 := x1.out
  generalize hw3 : w2.setCell ⟨pa, 2, none⟩ (Vs x.t) = w3 at b0 z0 x1
  clear hw3 c0 c1 c2 c3 c4 c5 f2
  refine (h2.out _).mono ?_
  rintro e w4 ⟨rfl, x2⟩
  replace b0 := b0.ext x2
  replace z0 := (RowKit.Below.block x2 _ (Array.getElem?_eq_some_iff.1 z0).1).trans z0
  replace x1 := x1.trans x2
  clear x2
  have f5 := frozen_of_row w4 pa 5 _ _ b0
  obtain ⟨c0, c1, c2, c3, c4, c5⟩ := b0.cells
  simp only [Nat.zero_add] at c1 c2 c3 c4 c5
  have g0 := frozen_of_row w4 (pa + 1) 0 _ _ z0
  have g1 := frozen_of_row w4 (pa + 1) 1 _ _ z0
  have g2 := frozen_of_row w4 (pa + 1) 2 _ _ z0
  have g3 := frozen_of_row w4 (pa + 1) 3 _ _ z0
  have g4 := frozen_of_row w4 (pa + 1) 4 _ _ z0
  have g5 := frozen_of_row w4 (pa + 1) 5 _ _ z0
  have k0 := cell_of_row w4 (pa + 1) 0 _ _ _ z0
  have k1 := cell_of_row w4 (pa + 1) 1 _ _ _ z0
  have k2 := cell_of_row w4 (pa + 1) 2 _ _ _ z0
  have k3 := cell_of_row w4 (pa + 1) 3 _ _ _ z0
  have k4 := cell_of_row w4 (pa + 1) 4 _ _ _ z0
  have k5 := cell_of_row w4 (pa + 1) 5 _ _ _ z0
  replace x1 := Lib.hid x1
  replace z0 := Lib.hid z0
  clear b0
  go_wp2
  have hpw := hq.out
  exact bodyPost_ret (v := msv x) (by simp [results, Try.results15, go_sem, k0, k1, k2, k3, k4, k5]) rfl ⟨rfl, ((((((x1.out.setCell (by show w.heap.size ≤ pa; omega) _).setCell (by show w.heap.size ≤ pa + 1; omega) _).setCell (by show w.heap.size ≤ pa + 1; omega) _).setCell (by show w.heap.size ≤ pa + 1; omega) _).setCell (by show w.heap.size ≤ pa + 1; omega) _).setCell (by show w.heap.size ≤ pa + 1; omega) _).setCell (by show w.heap.size ≤ pa + 1; omega) _⟩

/-- the block of a landed queue -/
def BxL (W : World) (q : Nat) (v : Value) (k : Nat) (g : Bool) : Prop := W.heap[q]? = some (.cells #[Vi (k : Int), v, .bool g] 49 (0, 0))
theorem BxL.cells {W : World} {q : Nat} {v : Value} {k : Nat} {g : Bool} (h : BxL W q v k g) : W.cell? ⟨q, 0, none⟩ = some (Vi (k : Int)) ∧ W.cell? ⟨q, 1, none⟩ = some v ∧ W.cell? ⟨q, 2, none⟩ = some (.bool g) :=
  ⟨by rw [cell_of_row W q 0 _ _ _ h]; rfl, by rw [cell_of_row W q 1 _ _ _ h]; rfl, by rw [cell_of_row W q 2 _ _ _ h]; rfl⟩
theorem BxL.thaw {W : World} {q : Nat} {v : Value} {k : Nat} {g : Bool} (h : BxL W q v k g) (j : Nat) : W.frozen? ⟨q, j, none⟩ = false := frozen_of_row W q j _ _ h
theorem BxL.lt {W : World} {q : Nat} {v : Value} {k : Nat} {g : Bool} (h : BxL W q v k g) : q < W.heap.size := (Array.getElem?_eq_some_iff.1 h).1
theorem BxL.setL {W : World} {q : Nat} {v : Value} {k : Nat} {g : Bool} (h : BxL W q v k g) (u : Value) : BxL (W.setCell ⟨q, 1, none⟩ u) q u k g := heap_setCell_same W q 1 _ _ _ h
theorem BxL.setG {W : World} {q : Nat} {v : Value} {k : Nat} {g : Bool} (h : BxL W q v k g) (b : Bool) : BxL (W.setCell ⟨q, 2, none⟩ (.bool b)) q v k b := heap_setCell_same W q 2 _ _ _ h
theorem BxL.ext {W W' : World} {q : Nat} {v : Value} {k : Nat} {g : Bool} (h : BxL W q v k g) (hx : Ext W W') : BxL W' q v k g := by
  unfold BxL at h ⊢
  rw [RowKit.Below.block hx q (Array.getElem?_eq_some_iff.1 h).1]; exact h
/-- the landed queue, in its block -/
def LdQ (W : World) (p : Value) (k : Nat) (l : List Ms) (g : Bool) (S : Nat → Prop) : Prop :=
  ∃ (q : Nat) (v : Value) (w0 : World), p = .pointer (some ⟨q, 0, none⟩) ∧ BxL W q v k g ∧ OwnM w0 W v l ∧ w0.heap.size ≤ W.heap.size ∧ v.ownBlock ≠ some q ∧ ∀ b, S b ↔ b = q ∨ v.ownBlock = some b
theorem LdQ.low {W : World} {p : Value} {k : Nat} {l : List Ms} {g : Bool} {S : Nat → Prop} (h : LdQ W p k l g S) : ∀ b, S b → b < W.heap.size := fun b hb => by
  obtain ⟨q, v, w0, rfl, hbx, ho, hw0, hvq, hS⟩ := h
  rcases (hS b).1 hb with rfl | h
  · exact hbx.lt
  · exact (ho.lt b h).2
theorem LdQ.far {W W' : World} {p : Value} {k : Nat} {l : List Ms} {g : Bool} {S : Nat → Prop} (h : LdQ W p k l g S) (hs : W.heap.size ≤ W'.heap.size) (hb : ∀ b, S b → W'.heap[b]? = W.heap[b]?) : LdQ W' p k l g S := by
  obtain ⟨q, v, w0, rfl, hbx, ho, hw0, hvq, hS⟩ := h
  refine ⟨q, v, w0, rfl, ?_, ?_, Nat.le_trans hw0 hs, hvq, hS⟩
  · unfold BxL at hbx ⊢
    rw [hb q ((hS q).2 (.inl rfl))]; exact hbx
  · unfold OwnM OwnG at ho ⊢
    rcases ho with ⟨h1, h2 | ⟨g, cap, cur, h2, h3, h4, h5⟩⟩
    · exact ⟨h1, .inl h2⟩
    · refine ⟨h1, .inr ⟨g, cap, cur, h2, h3, ?_, h5⟩⟩
      rw [hb g ((hS g).2 (.inr (by rw [h2]; rfl)))]; exact h4

/-- what New tells -/
def NewP (room : Int) (W : World) (e : Ending) (W' : World) : Prop :=
  ((1 ≤ room ∧ room ≤ 1000 → ∃ ad S, e = .returned (.tuple #[.pointer (some ad), errv 0]) ∧ LdQ W' (.pointer (some ad)) room.toNat [] false S ∧ ∀ b, S b → W.heap.size ≤ b) ∧ (¬ (1 ≤ room ∧ room ≤ 1000) → e = .returned (.tuple #[.pointer none, errv 1]))) ∧ Ext W W'
set_option maxRecDepth 100000 in
set_option maxHeartbeats 4000000 in
theorem new_sb (room : Int) (W : World) (h0 : -9223372036854775808 ≤ room) (h1 : room ≤ 9223372036854775807) : Calls Try.prog 6 #[Vi room] W (NewP room W) := by
  have hz0 : errv 0 = .nilIface := by simp [errv]
  have hz1 : errv 1 = .iface 47 (.int .i64 1) := by simp [errv]
  by_cases hrm : 1 ≤ room ∧ room ≤ 1000
  · obtain ⟨k, rfl⟩ : ∃ k : Nat, room = k := ⟨room.toNat, by omega⟩
    have hlo : ¬ ((k : Int) < 1) := by omega
    have hhi : ¬ (1000 < (k : Int)) := by omega
    have bq : BxL (W.alloc (.cells #[Vi (k : Int), .slice none 0 0, .bool false] 49)) W.heap.size (.slice none 0 0) k false := heap_alloc_new W _
    have hfin := Lib.hid (show ∃ ad S, (Ending.returned (.tuple #[.pointer (some ⟨W.heap.size, 0, none⟩), .nilIface])) = .returned (.tuple #[.pointer (some ad), errv 0]) ∧ LdQ (W.alloc (.cells #[Vi (k : Int), .slice none 0 0, .bool false] 49)) (.pointer (some ad)) k [] false S ∧ ∀ b, S b → W.heap.size ≤ b from
      ⟨⟨W.heap.size, 0, none⟩, fun b => b = W.heap.size, by rw [hz0], ⟨W.heap.size, _, W, rfl, bq, OwnM.nil _ _, ((Ext.refl W).alloc _).size, (fun e => by cases e), fun b => ⟨.inl, fun h => h.elim id (fun e => by cases e)⟩⟩, fun b hb => Nat.le_of_eq hb.symm⟩)
    clear bq hz0 hz1
    go_enter Try.func6, Try.ntmps6
    go_wp2_with fail
    exact bodyPost_ret (v := .tuple #[.pointer (some ⟨W.heap.size, 0, none⟩), .nilIface]) (by simp [results, Try.results6, go_sem]) rfl ⟨⟨fun _ => hfin.out, fun h => absurd hrm h⟩, (Ext.refl W).alloc _⟩
  · by_cases hlo : room < 1
    all_goals
      have hhi : 1 ≤ room → 1000 < room := by omega
      replace hz1 := Lib.hid hz1
      clear hz0
      replace hrm := Lib.hid hrm
      go_enter Try.func6, Try.ntmps6
      first | (have h3 := hhi (by omega); clear hhi; go_wp2_with fail) | (clear hhi; go_wp2_with fail)
      exact bodyPost_ret (v := .tuple #[.pointer none, .iface 47 (.int .i64 1)]) (by simp [results, Try.results6, go_sem]) rfl ⟨⟨fun h => absurd h hrm.out, fun _ => by rw [hz1.out]⟩, Ext.refl W⟩

set_option maxRecDepth 100000 in
set_option maxHeartbeats 4000000 in
theorem len_sb {W : World} {p : Value} {k : Nat} {l : List Ms} {g : Bool} {S : Nat → Prop} (h : LdQ W p k l g S) (hl : l.length ≤ 1000) : Calls Try.prog 14 #[p] W fun e W' => e = .returned (Vi (l.length : Int)) ∧ Ext W W' := by
  obtain ⟨q, v, w0, rfl, hbx, ho, hw0, hvq, hS⟩ := h
  obtain ⟨R0, c0, hv0, hc0, _⟩ := ho.open
  obtain ⟨n0, hn0⟩ : ∃ n, l.length = n := ⟨_, rfl⟩
  rw [hn0] at hv0 hl hc0 ⊢
  subst hv0
  obtain ⟨n1, n2, n3⟩ := hbx.cells
  clear hbx ho hS hn0 hvq
  go_enter Try.func14, Try.ntmps14
  go_wp2_with fail
  go_ret
  exact ⟨rfl, Ext.refl W⟩

set_option maxRecDepth 100000 in
set_option maxHeartbeats 8000000 in
theorem push_sb {W0 : World} {p : Value} {k : Nat} {l : List Ms} {g : Bool} {S : Nat → Prop} (x : Ms) (hsx : SmM x) (h : LdQ W0 p k l g S) (hl : l.length ≤ 1000) (hk : k ≤ 1000) :
    Calls Try.prog 12 #[p, msv x] W0 fun e W' => e = .returned (.bool (okP k l g)) ∧ ∃ S', LdQ W' p k (nxL k l g x) (nxG k l g) S' ∧ TSb S W0 W' ∧ ∀ b, S' b → S b ∨ W0.heap.size ≤ b := by
  have hcl := Lib.hid (fun W => own_sb x hsx W)
  clear hsx
  obtain ⟨q, v, w0, rfl, hbx, ho, hw0, hvq, hS⟩ := h
  have hqlt := hbx.lt
  have ba : BoxM (W0.alloc (.cells #[Vi x.v, .bool x.w, Vs x.t, Vi x.a, Vi x.d, Vs x.i] 38)) W0.heap.size x := heap_alloc_new W0 _
  have x0 : Ext W0 (W0.alloc (.cells #[Vi x.v, .bool x.w, Vs x.t, Vi x.a, Vi x.d, Vs x.i] 38)) := (Ext.refl _).alloc _
  obtain ⟨pa, hpa⟩ : ∃ pa, W0.heap.size = pa := ⟨_, rfl⟩
  rw [hpa] at ba
  replace hbx := hbx.ext x0
  have hrl := Lib.hid (fun b (hb : v.ownBlock = some b) => (OwnM.lt ho b hb).2)
  replace ho := ho.ext x0
  obtain ⟨R0, c0, hv0, hc0, _⟩ := ho.open
  obtain ⟨n0, hn0⟩ : ∃ n, l.length = n := ⟨_, rfl⟩
  rw [hn0] at hv0 hl
  subst hv0
  obtain ⟨n1, n2, n3⟩ := hbx.cells
  have f1 := hbx.thaw 1
  have f2 := hbx.thaw 2
  have hok : okP k l g = (!g && decide (n0 < k)) := by unfold okP; rw [hn0]
  replace hn0 := Lib.hid hn0
  replace hbx := Lib.hid hbx
  replace ho := Lib.hid ho
  replace hS := Lib.hid hS
  go_enter Try.func12, Try.ntmps12
  go_wp2_with fail
  generalize W0.alloc (.cells #[Vi x.v, .bool x.w, Vs x.t, Vi x.a, Vi x.d, Vs x.i] 38) = s1 at *
  by_cases hno : okP k l g = false
  · have hnl : nxL k l g x = l := by unfold nxL; rw [hno]; rfl
    have hng : nxG k l g = true := by unfold nxG; rw [hno]; rfl
    have hfin := Lib.hid (fun d : Nat => show LdQ ((s1.drewN d).setCell ⟨q, 2, none⟩ (.bool true)) (.pointer (some ⟨q, 0, none⟩)) k l true S ∧ TSb S W0 ((s1.drewN d).setCell ⟨q, 2, none⟩ (.bool true)) from by
      have hb := hbx.out.ext ((Ext.refl s1).drewN d)
      have hoo := ho.out.ext ((Ext.refl s1).drewN d)
      refine ⟨⟨q, _, w0, rfl, hb.setG true, hoo.set hvq 2 _, ?_, hvq, hS.out⟩, ?_⟩
      · have h1 := (TSb.set (S := S) (s1.drewN d) ((hS.out q).2 (.inl rfl)) 2 (.bool true)).size
        have h2 := (x0.drewN d).size
        omega
      · exact (TSb.ext (x0.drewN d)).trans (TSb.set _ ((hS.out q).2 (.inl rfl)) 2 _) (fun _ _ h => h))
    have hres := Lib.hid (show nxL k l g x = l ∧ nxG k l g = true ∧ okP k l g = false from ⟨hnl, hng, hno⟩)
    have hkl : g = false → k ≤ n0 := fun e => by
      rw [hok, e] at hno
      simp at hno
      omega
    clear hbx ho hok hnl hng hno hcl
    cases g with
    | true =>
      clear hkl
      go_quiet (fail)
      go_wp2
      go_ret
      obtain ⟨z1, z2, z3⟩ := hres.out
      exact ⟨by rw [z3]; rfl, S, by rw [z1, z2]; exact (hfin.out _).1, (hfin.out _).2, fun b hb => .inl hb⟩
    | false =>
      replace hkl := hkl rfl
      have hkd : decide ((k : Int) ≤ (n0 : Int)) = true := decide_eq_true (by omega)
      go_quiet (fail)
      go_wp2
      go_ret
      obtain ⟨z1, z2, z3⟩ := hres.out
      exact ⟨by rw [z3]; rfl, S, by rw [z1, z2]; exact (hfin.out _).1, (hfin.out _).2, fun b hb => .inl hb⟩
  · replace hno : okP k l g = true := by simpa using hno
    obtain ⟨rfl, hlt⟩ : g = false ∧ n0 < k := by
      rw [hok] at hno
      simpa using hno
    have hnl : nxL k l false x = l ++ [x] := by unfold nxL; rw [hno]; rfl
    have hng : nxG k l false = false := by unfold nxG; rw [hno]; rfl
    have hres := Lib.hid (show nxL k l false x = l ++ [x] ∧ nxG k l false = false ∧ okP k l false = true from ⟨hnl, hng, hno⟩)
    have hkl : decide ((k : Int) ≤ (n0 : Int)) = false := decide_eq_false (by omega)
    have hkd : decide (k ≤ n0) = false := decide_eq_false (by omega)
    clear hok hnl hng hno
    go_quiet (fail)
    have xs := (Ext.refl s1).drewN nq
    generalize s1.drewN nq = s0 at *
    replace hbx := hbx.out.ext xs
    replace ho := ho.out.ext xs
    replace ba := ba.ext xs
    have x1 := x0.trans xs
    clear n1 n2 n3 f1 f2
    obtain ⟨n1, n2, n3⟩ := hbx.cells
    obtain ⟨a0, a1, a2, a3, a4, a5⟩ := ba.cells
    simp only [Nat.zero_add] at a1 a2 a3 a4 a5
    obtain ⟨row, hvb⟩ : ∃ row, (Value.slice R0 n0 c0).ownBlock = row := ⟨_, rfl⟩
    rw [hvb] at hrl hvq
    have hqr : some q ≠ row := fun e => hvq e.symm
    have hpr : some pa ≠ row := fun e => by have := hrl.out pa e.symm; omega
    have hS' : ∀ b, S b ↔ b = q ∨ row = some b := by have := hS.out; rw [hvb] at this; exact this
    have hlt := Lib.hid (fun (z : Nat) (hz : s0.heap.size ≤ z) => show some z ≠ row from fun e => by have := hrl.out z e.symm; have := x1.size; omega)
    obtain ⟨sA, hsA⟩ : ∃ s, s0.heap.size = s := ⟨_, rfl⟩
    replace hsA := Lib.hid hsA
    have hXl := Lib.hid (show l.length + 1 ≤ 100000 by rw [hn0.out]; omega)
    have hBw := Lib.hid (show w0.heap.size ≤ s0.heap.size from Nat.le_trans hw0 x1.size)
    have hown := Lib.hid ho
    have hX0 := hn0
    have hq0 := Lib.hid hqlt
    have hbxh := Lib.hid hbx
    have hx1 := Lib.hid x1
    have hSh := Lib.hid hS'
    replace hvb := Lib.hid hvb
    clear hbx ho ba n1 n3 hS hS' x0 xs x1 hpa hqlt hn0
    go_wp2_with fail
    clear hkl
    try rw [hkd]
    clear hkd
    refine wp_sq1 11 8 [rwI 6 (msv x), rw1 7 (fun z9 W => ∃ p, z9 = .slice (some ⟨p, 0, none⟩) 1 1 ∧ some p ≠ row ∧ BoxM W p x), rw1 8 (fun z9 W => OwnM w0 W z9 (l ++ [x]) ∧ (z9.ownBlock = row ∨ ∃ p, z9.ownBlock = some p ∧ sA ≤ p))] (ROm row s0) (fun W => OwnM w0 W (.slice R0 n0 c0) l) Ext (ROm row) (ROm.ext ((Ext.refl _).drew)) (hown.out.ext ((Ext.refl _).drew)) (fun _ _ h e => h.trans (ROm.ext e)) (fun _ _ h e => h.ext e) ⟨fun _ _ _ _ _ _ => trivial, fun _ _ _ _ _ _ _ _ => trivial, (by rintro _ _ _ _ ⟨q, h1, h2, h3⟩ e; exact ⟨q, h1, h2, h3.ext e⟩), (fun _ _ => by rintro _ _ _ _ ⟨q, h1, h2, h3⟩ e; exact ⟨q, h1, h2, ROm.blk e h3 h2⟩), (fun _ _ _ _ h e => ⟨h.1.ext e, h.2⟩), (fun _ h => absurd rfl h), trivial⟩ fun ρ hI => ?_
    refine .s1 6 false [] (fun W hx _ _ => by
      have q0 := ROm.cell hx n2 hqr
      have p0 := ROm.cell hx a0 hpr
      have p1 := ROm.cell hx a1 hpr
      have p2 := ROm.cell hx a2 hpr
      have p3 := ROm.cell hx a3 hpr
      have p4 := ROm.cell hx a4 hpr
      have p5 := ROm.cell hx a5 hpr
      exact calmT) ?_
    refine .kv1 hI 0 _ (fun W _ => hcl.out W) ?_
    refine .o1 1 false [] (fun W hx _ _ N hN => ?_) ?_
    · go_simp
      exact hN _ _ (fun _ e => by cases e) ⟨_, rfl, hlt.out _ (ROm.size hx), heap_alloc_new W _⟩ ((Ext.refl W).alloc _)
    refine .o0 2 [1] (fun W hx hpre f N hN => ?_) ?_
    · obtain ⟨⟨p, hq1, hq2, hq3⟩, _⟩ := f
      obtain ⟨v', W1, hr1, hr2, hr3, hr4⟩ := app_M w0 W 31 (.slice R0 n0 c0) l hpre (Nat.le_trans hBw.out (ROm.size hx)) (some ⟨p, 0, none⟩) 1 1 [x] rfl (MsS.box hq3) (by simp only [List.length_cons, List.length_nil]; exact hXl.out)
      rw [hvb.out] at hr3 hr4
      have hq1 : ρ 7 = _ := hq1
      simp only [execOp, resolve, invoke, builtin, Sem.run_bind, Sem.run_pure, Result.andThen_ok, List.map_toArray, List.map_cons, List.map_nil, Act.eval, Act.put, List.setIfInBounds_toArray, List.set_cons_succ, List.set_cons_zero, Array.getD_eq_getD_getElem?, List.getElem?_toArray, List.getElem?_cons_succ, List.getElem?_cons_zero, Option.getD_some, hq1, hr1]
      exact hN _ _ (fun _ e => by cases e) ⟨hr2, hr4.imp id (fun e => ⟨_, e, Nat.le_trans (Nat.le_of_eq hsA.out.symm) (ROm.size hx)⟩)⟩ (hx.trans hr3) hr3
    refine .s1 2 false [] (fun W hx _ _ => calmT) ?_
    refine .fin fun W hR ⟨_, _, h8, _⟩ => ?_
    obtain ⟨o9, b9⟩ := h8 rfl
    replace o9 : OwnM w0 W (ρ 8) (l ++ [x]) := o9
    replace b9 : (ρ 8).ownBlock = row ∨ ∃ p, (ρ 8).ownBlock = some p ∧ sA ≤ p := b9
    obtain ⟨A9, c9, hv9, hc9, _⟩ := o9.open
    rw [List.length_append, List.length_singleton, hX0.out] at hv9 hc9
    rw [hv9] at o9 b9 ⊢
    have hB9 : BxL W q (.slice R0 n0 c0) k false := ROm.blk hR hbxh.out hqr
    have f9 := hB9.thaw 1
    have n9 := hB9.cells.2.1
    have hv9q : (Value.slice A9 (n0 + 1) c9).ownBlock ≠ some q := fun e => by
      rcases b9 with h | ⟨p, h, hp⟩
      · exact hqr (e ▸ h)
      · rw [h] at e
        injection e with e
        have := hsA.out
        have := hx1.out.size
        have := hq0.out
        omega
    have hfin := Lib.hid (show LdQ (W.setCell ⟨q, 1, none⟩ (.slice A9 (n0 + 1) c9)) (.pointer (some ⟨q, 0, none⟩)) k (l ++ [x]) false (fun b => b = q ∨ (Value.slice A9 (n0 + 1) c9).ownBlock = some b) ∧ TSb S W0 (W.setCell ⟨q, 1, none⟩ (.slice A9 (n0 + 1) c9)) from by
      refine ⟨⟨q, _, w0, rfl, hB9.setL _, o9.set hv9q 1 _, ?_, hv9q, fun b => Iff.rfl⟩, ?_⟩
      · have h1 := (TSb.set (S := S) W ((hSh.out q).2 (.inl rfl)) 1 (.slice A9 (n0 + 1) c9)).size
        have h2 := ROm.size hR
        have h3 := hBw.out
        omega
      · exact ((TSb.ext hx1.out).trans (TSb.grown hR (fun b hb _ => (hSh.out b).2 (.inr hb))) (fun _ _ h => h)).trans (TSb.set _ ((hSh.out q).2 (.inl rfl)) 1 _) (fun _ _ h => h))
    have hup := Lib.hid (show ∀ b, b = q ∨ (Value.slice A9 (n0 + 1) c9).ownBlock = some b → S b ∨ W0.heap.size ≤ b from fun b hb => by
      rcases hb with rfl | hb
      · exact .inl ((hSh.out _).2 (.inl rfl))
      · rcases b9 with h | ⟨p, h, hp⟩
        · exact .inl ((hSh.out b).2 (.inr (by rw [← h, hb])))
        · rw [h] at hb
          injection hb with hb
          have := hsA.out
          have := hx1.out.size
          exact .inr (by omega))
    clear o9 b9 hB9 hv9q h8 n2 hR
    go_wp2
    go_ret
    obtain ⟨z1, z2, z3⟩ := hres.out
    exact ⟨by rw [z3]; rfl, _, by rw [z1, z2]; exact hfin.out.1, hfin.out.2, hup.out⟩

theorem wpList_append_MM {w0 w : World} {ops : Array Oper} {rest : List Oper} {o : Oper} {a : Act} {Q : Exit → Act → World → Prop} (hgd : o.guard = none) (s x : Operand)
    (ho : o.op = .call { callee := .builtin .append, args := #[s, x], argTypes := #[31, 31] })
    (v : Value) (l : List Ms) (hs : a.eval s = v) (hown : OwnM w0 w v l) (hx : w0.heap.size ≤ w.heap.size)
    (A : Option Addr) (m c : Nat) (r : List Ms) (he : a.eval x = .slice A m c) (hm : r.length = m) (hr : MsS w A r) (hb : l.length + r.length ≤ 100000)
    (h : ∀ v' w', OwnM w0 w' v' (l ++ r) → w.grownBy w' v.ownBlock → (v'.ownBlock = v.ownBlock ∨ v'.ownBlock = some w.heap.size) → wpList Try.prog ops Q rest (a.put o.dst v') w') : wpList Try.prog ops Q (o :: rest) a w := by
  refine wpList_plain hgd fun K hK => ?_
  obtain ⟨v', w', hrun, h2, h3, h4⟩ := app_M w0 w o.type v l hown hx A m c r hm hr hb
  unfold Oper.wp execOp
  simp only [ho, resolve, invoke, builtin, Sem.run_bind, Sem.run_pure, Result.andThen_ok, List.map_toArray, List.map_cons, List.map_nil, hs, he, hrun]
  exact hK _ _ (h v' w' h2 h3 h4)

set_option maxRecDepth 100000 in
set_option maxHeartbeats 8000000 in
theorem drain_sb {W0 : World} {p : Value} {k : Nat} {l : List Ms} {g : Bool} {S : Nat → Prop} (ver : Int) (text : List UInt8) (htx : text.length ≤ 281474976710656) (h : LdQ W0 p k l g S) (hl : l.length ≤ 1000) :
    Calls Try.prog 10 #[p, Vi ver, Vs text] W0 fun e W' => ∃ (A : Option Addr) (c : Nat) (S' : Nat → Prop), e = .returned (.slice A (outQ l g ver text).length c) ∧ MsS W' A (outQ l g ver text) ∧ (∀ b o, A = some ⟨b, o, none⟩ → outQ l g ver text ≠ [] → S b ∨ W0.heap.size ≤ b) ∧
      LdQ W' p k [] false S' ∧ TSb S W0 W' ∧ ∀ b, S' b → S b ∨ W0.heap.size ≤ b := by
  have hcl := Lib.hid (fun W => own_sb ⟨ver, true, text, 0, 0, []⟩ ⟨htx, Nat.zero_le _⟩ W)
  clear htx
  obtain ⟨q, v, w0, rfl, hbx, ho, hw0, hvq, hS⟩ := h
  have hqlt := Lib.hid hbx.lt
  obtain ⟨R0, c0, hv0, hc0, hR0⟩ := ho.open
  obtain ⟨n0, hn0⟩ : ∃ n, l.length = n := ⟨_, rfl⟩
  rw [hn0] at hv0 hl hc0
  subst hv0
  obtain ⟨n1, n2, n3⟩ := hbx.cells
  have f1 := hbx.thaw 1
  have f2 := hbx.thaw 2
  have hSq := (hS q).2 (.inl rfl)
  cases g with
  | false =>
    have ho0 : outQ l false ver text = l := by unfold outQ; simp
    have hfin := Lib.hid (show LdQ ((W0.setCell ⟨q, 1, none⟩ (.slice none 0 0)).setCell ⟨q, 2, none⟩ (.bool false)) (.pointer (some ⟨q, 0, none⟩)) k [] false (fun b => b = q) ∧ TSb S W0 ((W0.setCell ⟨q, 1, none⟩ (.slice none 0 0)).setCell ⟨q, 2, none⟩ (.bool false)) ∧ MsS ((W0.setCell ⟨q, 1, none⟩ (.slice none 0 0)).setCell ⟨q, 2, none⟩ (.bool false)) R0 l from by
      have ht := (TSb.set (S := S) W0 hSq 1 (.slice none 0 0)).trans (TSb.set (S := S) (W0.setCell ⟨q, 1, none⟩ (.slice none 0 0)) hSq 2 (.bool false)) (fun _ _ h => h)
      refine ⟨⟨q, .slice none 0 0, w0, rfl, (hbx.setL _).setG false, OwnM.nil _ _, Nat.le_trans hw0 ht.size, (fun e => by cases e), fun b => ⟨.inl, fun h => h.elim id (fun e => by cases e)⟩⟩, ht, ?_⟩
      have h9 := (ho.set hvq 1 (.slice none 0 0)).set hvq 2 (.bool false)
      rw [← hn0] at h9
      exact OwnG.row h9)
    have hlo := Lib.hid (show ∀ b o, R0 = some ⟨b, o, none⟩ → S b from fun b o e => (hS b).2 (.inr (by rw [e]; rfl)))
    have hSh := Lib.hid hSq
    clear hbx ho hS hSq hR0 hcl
    go_enter Try.func10, Try.ntmps10
    go_wp2
    go_ret
    exact ⟨R0, c0, fun b => b = q, by rw [ho0, hn0]; rfl, by rw [ho0]; exact hfin.out.2.2, fun b o e _ => .inl (hlo.out b o e), hfin.out.1, hfin.out.2.1, fun b hb => .inl (hb ▸ hSh.out)⟩
  | true =>
    have ho0 : outQ l true ver text = l ++ [⟨ver, true, text, 0, 0, []⟩] := rfl
    have hfin := Lib.hid (fun (w3 w2 : World) (v2 : Value) (x3 : Ext W0 w3) (o2 : OwnM w0 w2 v2 (l ++ [⟨ver, true, text, 0, 0, []⟩])) (g2 : w3.grownBy w2 (Value.slice R0 n0 c0).ownBlock) (e2 : v2.ownBlock = (Value.slice R0 n0 c0).ownBlock ∨ v2.ownBlock = some w3.heap.size) =>
      show (w2.cell? ⟨q, 1, none⟩ = some (.slice R0 n0 c0) ∧ w2.cell? ⟨q, 2, none⟩ = some (.bool true) ∧ w2.frozen? ⟨q, 1, none⟩ = false ∧ w2.frozen? ⟨q, 2, none⟩ = false) ∧
        LdQ ((w2.setCell ⟨q, 1, none⟩ (.slice none 0 0)).setCell ⟨q, 2, none⟩ (.bool false)) (.pointer (some ⟨q, 0, none⟩)) k [] false (fun b => b = q) ∧ TSb S W0 ((w2.setCell ⟨q, 1, none⟩ (.slice none 0 0)).setCell ⟨q, 2, none⟩ (.bool false)) ∧
        ∃ A c, v2 = .slice A (l ++ [(⟨ver, true, text, 0, 0, []⟩ : Ms)]).length c ∧ MsS ((w2.setCell ⟨q, 1, none⟩ (.slice none 0 0)).setCell ⟨q, 2, none⟩ (.bool false)) A (l ++ [⟨ver, true, text, 0, 0, []⟩]) ∧ ∀ b o, A = some ⟨b, o, none⟩ → S b ∨ W0.heap.size ≤ b from by
      have hbx2 : BxL w2 q (.slice R0 n0 c0) k true := ROm.blk g2 (hbx.ext x3) (fun e => hvq e.symm)
      have t2 : TSb S W0 w2 := (TSb.ext x3).trans (TSb.grown g2 (fun b hb _ => (hS b).2 (.inr hb))) (fun _ _ h => h)
      have ht := (TSb.set (S := S) w2 hSq 1 (.slice none 0 0)).trans (TSb.set (S := S) (w2.setCell ⟨q, 1, none⟩ (.slice none 0 0)) hSq 2 (.bool false)) (fun _ _ h => h)
      refine ⟨⟨hbx2.cells.2.1, hbx2.cells.2.2, hbx2.thaw 1, hbx2.thaw 2⟩, ⟨q, .slice none 0 0, w0, rfl, (hbx2.setL _).setG false, OwnM.nil _ _, Nat.le_trans hw0 (Nat.le_trans t2.size ht.size), (fun e => by cases e), fun b => ⟨.inl, fun h => h.elim id (fun e => by cases e)⟩⟩, t2.trans ht (fun _ _ h => h), ?_⟩
      have hne : v2.ownBlock ≠ some q := fun e => by
        rcases e2 with h | h
        · exact hvq (h.symm.trans e)
        · rw [h] at e
          injection e with e
          have := hqlt.out
          have := x3.size
          omega
      have h9 := (o2.set hne 1 (.slice none 0 0)).set hne 2 (.bool false)
      obtain ⟨A, c, e9, _, _⟩ := h9.open
      rw [e9] at h9 e2
      refine ⟨A, c, e9, OwnG.row h9, fun b o e => ?_⟩
      have hb : (Value.slice A (l ++ [(⟨ver, true, text, 0, 0, []⟩ : Ms)]).length c).ownBlock = some b := by rw [e]; rfl
      rcases e2 with h | h
      · exact .inl ((hS b).2 (.inr (by rw [← h]; exact hb)))
      · rw [hb] at h
        injection h with h
        have := x3.size
        exact .inr (by omega))
    have hoe := Lib.hid (fun (w2 : World) (x2 : Ext W0 w2) => show OwnM w0 w2 (.slice R0 n0 c0) l ∧ w0.heap.size ≤ w2.heap.size from ⟨ho.ext x2, Nat.le_trans hw0 x2.size⟩)
    have hSh := Lib.hid hSq
    replace hn0 := Lib.hid hn0
    clear hbx ho hS hSq hR0
    go_enter Try.func10, Try.ntmps10
    go_wp2_with fail
    refine (hcl.out _).mono ?_
    rintro e w2 ⟨rfl, x2⟩
    go_wp2_with (first
      | (at_builtin
         refine wpList_append_MM (w0 := w0) rfl (.tmp 16) (.tmp 21) rfl _ l rfl (hoe.out _ (x2.alloc _)).1 (hoe.out _ (x2.alloc _)).2 _ 1 1 [⟨ver, true, text, 0, 0, []⟩] rfl rfl (MsS.new w2 ⟨ver, true, text, 0, 0, []⟩) (by rw [hn0.out]; simp only [List.length_cons, List.length_nil]; omega) ?_
         intro v7 w7 o7 g7 e7
         obtain ⟨⟨n1', n2', f1', f2'⟩, z1, z2, A, c, z3, z4, z5⟩ := hfin.out _ w7 v7 (x2.alloc _) o7 g7 e7)
      | fail)
    go_ret
    exact ⟨A, c, fun b => b = q, by rw [ho0, List.length_append]; rfl, by rw [ho0]; exact z4, fun b o e _ => z5 b o e, z1, z2, fun b hb => .inl (hb ▸ hSh.out)⟩

theorem subs_K : Nonempty SbK := ⟨{
  Q := LdQ
  w := { low := LdQ.low, far := LdQ.far, push := fun m hs h hl hk => push_sb m hs h hl hk, drain := fun ver text ht h hl => drain_sb ver text ht h hl }
  new := fun room W h0 h1 => new_sb room W h0 h1
  len := fun h hl => len_sb h hl }⟩

end Go.Proofs.Ytfcoidpkhggnpaa
