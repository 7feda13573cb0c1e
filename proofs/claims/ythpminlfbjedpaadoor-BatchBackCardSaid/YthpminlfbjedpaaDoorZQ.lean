/-
  Several texts of this seat in one file, each in the namespace again; no claim stands here.
-/
import Derived.Test.YthpminlfbjedpaaDoorBMath
import Derived.Test.YthpminlfbjedpaaDoorWirGetZ
import Derived.Test.YthpminlfbjedpaaDoorZO
import Derived.Test.YthpminlfbjedpaaDoorZP
namespace Go.Proofs.YthpminlfbjedpaaDoor
open Go.ChangeShapes Go.WideShapes Go.ChangeAt Go.RowKit Go.Sort
set_option linter.unusedVariables false
attribute [local go_sem] World.cell?_alloc_some

/-- numbers of the call's own -/
abbrev Vn (n : Nat) : Value := .int .u32 (n : Int)
theorem infoN : (Tryd.prog.info? 45).map (fun i => (i.zero, i.size, i.bytes)) = some (some (.int .u32 0), 1, 4) := by kernel_rfl
theorem map_Vn_one (l : List Nat) : ∀ u ∈ l.map Vn, u.oneCell' = true := by intro u hu; obtain ⟨b, _, rfl⟩ := List.mem_map.1 hu; rfl
def OwnN (w W : World) (v : Value) (l : List Nat) : Prop := OwnG 45 1 w W v l.length (l.map Vn)
theorem OwnN.nil (w W : World) : OwnN w W (.slice none 0 0) [] := OwnG.nil _ _ _ _
theorem OwnN.ext {w W W' : World} {v : Value} {l : List Nat} (h : OwnN w W v l) (hx : Ext W W') : OwnN w W' v l := OwnG.ext h hx
theorem OwnN.open {w W : World} {v : Value} {l : List Nat} (h : OwnN w W v l) : ∃ A c, v = .slice A l.length c ∧ l.length ≤ c ∧ Row W A (l.map Vn) := by
  obtain ⟨A, c, rfl, hc⟩ := OwnG.form h
  exact ⟨A, c, rfl, hc, OwnG.row h⟩
theorem wpList_append_N {w0 w : World} {ops : Array Oper} {rest : List Oper} {o : Oper} {a : Act} {Q : Exit → Act → World → Prop} (hgd : o.guard = none) (s x : Operand)
    (ho : o.op = .call { callee := .builtin .append, args := #[s, x], argTypes := #[69, 69] })
    (v : Value) (l : List Nat) (hs : a.eval s = v) (hown : OwnN w0 w v l) (hx : Ext w0 w)
    (A : Option Addr) (m c : Nat) (r : List Nat) (he : a.eval x = .slice A m c) (hm : r.length = m) (hr : Row w A (r.map Vn)) (hb : l.length + r.length ≤ 100000)
    (h : ∀ v' w', OwnN w0 w' v' (l ++ r) → Ext w0 w' → w.grownBy w' v.ownBlock → wpList Tryd.prog ops Q rest (a.put o.dst v') w') : wpList Tryd.prog ops Q (o :: rest) a w := by
  obtain ⟨i, hi, hz0, hz1, hz2⟩ := info_parts infoN
  subst hm
  refine wpList_append_row w hgd s x _ ho w0.heap.size 45 i _ 1 4 Tryd.underlying69 hi hz0 hz1 hz2 rfl (by omega) v l.length _ hs hown A r.length c _ he (by simp) hr (map_Vn_one r)
    (by unfold maxLen; omega) (by omega) hx.size ?_
  intro v' w' h1 h2
  refine h v' w' ?_ (hx.grown h2 (OwnG.lt hown)) h2
  unfold OwnN OwnG
  rw [List.map_append, List.length_append]
  exact h1
theorem rowN_new (w : World) (x : Nat) : Row (w.alloc (.cells #[.int .u32 (x : Int)] 45)) (some ⟨w.heap.size, 0, none⟩) ([x].map Vn) := Row.new w #[.int .u32 (x : Int)] 45

/-- what numbers answers -/
def NumsRet (w : World) : Option (List Nat × Nat) → Ending → World → Prop
  | none, e, w' => e = .returned (.tuple #[.slice none 0 0, Vi 0, .bool false]) ∧ Ext w w'
  | some (vs, q), e, w' => ∃ v, e = .returned (.tuple #[v, Vi q, .bool true]) ∧ OwnN w w' v vs ∧ Ext w w'
theorem numsAt_succ {l : List UInt8} {n p : Nat} : numsAt l (n + 1) p = match getB l p with
    | none => none
    | some (v, k) => match numsAt l n (p + k) with
      | none => none
      | some (vs, q) => some (v :: vs, q) := rfl
/-- what its loop keeps -/
def NumsRel (w : World) (l : List UInt8) (N : Nat) (R : Option (List Nat × Nat)) (v1 v9 v10 : Value) (W : World) : Prop :=
  ∃ (i p : Nat) (o : List Nat), i ≤ N ∧ v1 = Vi p ∧ v10 = Vi i ∧ Hid (OwnN w W v9 o) ∧ o.length = i ∧ p ≤ l.length ∧ Ext w W ∧ Hid ((numsAt l (N - i) p).map (fun x => (o ++ x.1, x.2)) = R)

set_option maxRecDepth 100000 in
set_option maxHeartbeats 4000000 in
theorem numbersRef_any (A : Option Addr) (n c : Nat) (l : List UInt8) (p N : Nat) (w : World) (hb : Bys w A l) (hl : l.length = n) (hn : n ≤ 30000) (hp : p ≤ n) (hN : N ≤ 10) :
    Calls Tryd.prog 28 #[.slice A n c, Vi p, Vi N] w (NumsRet w (numsAt l N p)) := by
  obtain ⟨R, hR⟩ : ∃ R, numsAt l N p = R := ⟨_, rfl⟩
  rw [hR]
  have hR0 := Lib.hid (show (numsAt l (N - 0) p).map (fun x => (([] : List Nat) ++ x.1, x.2)) = R by rw [Nat.sub_zero, hR]; cases R <;> rfl)
  clear hR
  replace hb := Lib.hid hb
  replace hl := Lib.hid hl
  go_enter Tryd.func28, Tryd.ntmps28
  go_wp2
  go_loopw [1, 9, 10] (NumsRel w l N R) (fun _ _ i _ => N - (intOf i).toNat)
  case atStart => exact ⟨0, p, [], Nat.zero_le _, rfl, rfl, Lib.hid (OwnN.nil _ _), rfl, by rw [hl.out]; exact hp, Ext.refl _, hR0⟩
  case round =>
    clear hR0
    obtain ⟨i, p, o, hi, rfl, rfl, ho, hol, hpl, hx, hrel⟩ := hrel
    by_cases hlt : i < N
    · have hc := Lib.hid (getRef_any A n c l p wr (hb.out.ext hx) hl.out hn)
      have hs := hrel.out
      rw [show N - i = (N - (i + 1)) + 1 by omega, numsAt_succ] at hs
      clear hrel
      cases hg : getB l p with
      | none =>
        rw [hg] at hs hc
        have hs' : (none : Option (List Nat × Nat)) = R := hs
        subst hs'
        clear hs hg
        simp only [getRefRet] at hc
        go_wp2_with fail
        refine hc.out.mono ?_
        rintro e w1 ⟨rfl, rfl⟩
        go_wp2
        exact bodyPost_ret (v := .tuple #[.slice none 0 0, Vi 0, .bool false]) (by simp [results, Tryd.results28, go_sem]) rfl ⟨rfl, hx⟩
      | some vk =>
        obtain ⟨v, k⟩ := vk
        rw [hg] at hs hc
        obtain ⟨_, b2, _, b4, b5⟩ := getB_back hg
        simp only at hs
        have hs2 := Lib.hid (show (numsAt l (N - (i + 1)) (p + k)).map (fun x => (o ++ [v] ++ x.1, x.2)) = R by
          rw [← hs]
          cases numsAt l (N - (i + 1)) (p + k) with
          | none => rfl
          | some x => simp)
        clear hs hg
        simp only [getRefRet] at hc
        rw [hl.out] at b2
        go_wp2_with fail
        refine hc.out.mono ?_
        rintro e w1 ⟨rfl, rfl⟩
        go_wp2_with (first
          | (at_builtin
             refine wpList_append_N (w0 := w) rfl (.tmp 28) (.tmp 30) rfl _ o rfl (ho.out.ext ((Ext.refl _).alloc _)) (hx.alloc _) _ 1 1 [v] rfl rfl (rowN_new _ v) (by simp only [List.length_cons, List.length_nil]; omega) ?_
             intro v3 w3 o3 x3 _))
        go_roundw
        case rel => exact ⟨i + 1, p + k, o ++ [v], by omega, by go_num, by go_num, Lib.hid o3, by simp [hol], by rw [hl.out]; exact b2, x3, hs2⟩
        case measure => simp [intOf]; omega
    · obtain rfl : i = N := by omega
      have hs := hrel.out
      rw [Nat.sub_self] at hs
      simp only [numsAt, Option.map_some, List.append_nil] at hs
      subst hs
      go_wp2
      exact bodyPost_ret (v := .tuple #[_, Vi p, .bool true]) (by simp [results, Tryd.results28, go_sem]) rfl ⟨_, rfl, ho.out, hx⟩

end Go.Proofs.YthpminlfbjedpaaDoor

namespace Go.Proofs.YthpminlfbjedpaaDoor
open Go.ChangeShapes Go.WideShapes Go.ChangeAt Go.RowKit Go.Sort
set_option linter.unusedVariables false
attribute [local go_sem] World.cell?_alloc_some

/-- what the slots hold -/
def bgrTab (q4 g cN : Nat) (v : Value) (u0 u1 u2 u3 u4 u5 : Nat) (t : List UInt8) : SoftTab := [(65, fun z9 W => z9 = .pointer (some ⟨q4, 0, none⟩)),
  (66, fun z9 W => z9 = v),
  (67, fun z9 W => z9 = .slice (some ⟨g, 0, none⟩) 6 cN),
  (68, fun z9 W => z9 = .pointer (some ⟨g, 0, none⟩)),
  (69, fun z9 W => z9 = Vu u0),
  (70, fun z9 W => z9 = .slice (some ⟨g, 0, none⟩) 6 cN),
  (71, fun z9 W => z9 = .pointer (some ⟨g, 1, none⟩)),
  (72, fun z9 W => z9 = Vu u1),
  (73, fun z9 W => z9 = idv u0 u1),
  (74, fun z9 W => z9 = .slice (some ⟨g, 0, none⟩) 6 cN),
  (75, fun z9 W => z9 = .pointer (some ⟨g, 2, none⟩)),
  (76, fun z9 W => z9 = Vu u2),
  (77, fun z9 W => z9 = .slice (some ⟨g, 0, none⟩) 6 cN),
  (78, fun z9 W => z9 = .pointer (some ⟨g, 3, none⟩)),
  (79, fun z9 W => z9 = Vu u3),
  (80, fun z9 W => z9 = idv u2 u3),
  (81, fun z9 W => z9 = .slice (some ⟨g, 0, none⟩) 6 cN),
  (82, fun z9 W => z9 = .pointer (some ⟨g, 4, none⟩)),
  (83, fun z9 W => z9 = Vu u4),
  (84, fun z9 W => z9 = .slice (some ⟨g, 0, none⟩) 6 cN),
  (85, fun z9 W => z9 = .pointer (some ⟨g, 5, none⟩)),
  (86, fun z9 W => z9 = Vu u5),
  (87, fun z9 W => z9 = idv u4 u5),
  (88, fun z9 W => z9 = Vt t),
  (89, fun z9 W => z9 = rnv ⟨u0, u1, u2, u3, u4, u5, t⟩),
  (90, fun z9 W => ∃ q, z9 = .slice (some ⟨q, 0, none⟩) 1 1 ∧ BoxR W q ⟨u0, u1, u2, u3, u4, u5, t⟩)]
theorem bgrTab_mono (q4 g cN : Nat) (v : Value) (u0 u1 u2 u3 u4 u5 : Nat) (t : List UInt8) : SoftMonoR Ext (bgrTab q4 g cN v u0 u1 u2 u3 u4 u5 t) := by
  intro x hp v' W W' h hx
  simp only [bgrTab, List.mem_cons, List.not_mem_nil, or_false] at hp
  rcases hp with rfl | rfl | rfl | rfl | rfl | rfl | rfl | rfl | rfl | rfl | rfl | rfl | rfl | rfl | rfl | rfl | rfl | rfl | rfl | rfl | rfl | rfl | rfl | rfl | rfl | rfl
  all_goals first
    | exact h
    | (obtain ⟨q, h1, h2⟩ := h
       exact ⟨q, h1, by unfold BoxR at h2 ⊢; rw [RowKit.Below.block hx q (Array.getElem?_eq_some_iff.1 h2).1]; exact h2⟩)
/-- what the slots hold -/
def bgsTab (q4 g cN : Nat) (v2 : Value) (u0 u1 u2 : Nat) : SoftTab := [(125, fun z9 W => z9 = .pointer (some ⟨q4, 1, none⟩)),
  (126, fun z9 W => z9 = v2),
  (127, fun z9 W => z9 = .slice (some ⟨g, 0, none⟩) 3 cN),
  (128, fun z9 W => z9 = .pointer (some ⟨g, 0, none⟩)),
  (129, fun z9 W => z9 = Vu u0),
  (130, fun z9 W => z9 = .slice (some ⟨g, 0, none⟩) 3 cN),
  (131, fun z9 W => z9 = .pointer (some ⟨g, 1, none⟩)),
  (132, fun z9 W => z9 = Vu u1),
  (133, fun z9 W => z9 = .slice (some ⟨g, 0, none⟩) 3 cN),
  (134, fun z9 W => z9 = .pointer (some ⟨g, 2, none⟩)),
  (135, fun z9 W => z9 = Vu u2),
  (136, fun z9 W => z9 = spv u0 u1 u2),
  (137, fun z9 W => ∃ q, z9 = .slice (some ⟨q, 0, none⟩) 1 1 ∧ BoxS6 W q (u0, u1, u2))]
theorem bgsTab_mono (q4 g cN : Nat) (v2 : Value) (u0 u1 u2 : Nat) : SoftMonoR Ext (bgsTab q4 g cN v2 u0 u1 u2) := by
  intro x hp v' W W' h hx
  simp only [bgsTab, List.mem_cons, List.not_mem_nil, or_false] at hp
  rcases hp with rfl | rfl | rfl | rfl | rfl | rfl | rfl | rfl | rfl | rfl | rfl | rfl | rfl
  all_goals first
    | exact h
    | (obtain ⟨q, h1, h2⟩ := h
       exact ⟨q, h1, by unfold BoxS6 at h2 ⊢; rw [RowKit.Below.block hx q (Array.getElem?_eq_some_iff.1 h2).1]; exact h2⟩)

/-- what the reference's GetBatch answers -/
def GrfRet (w : World) (r : Option (List Rn × List Sp)) (e : Ending) (w' : World) : Prop := match r with
  | none => e = .returned (.tuple #[nilB, .bool false]) ∧ Ext w w'
  | some (rs, ds) => ∃ vr vd, e = .returned (.tuple #[.agg #[vr, vd], .bool true]) ∧ OwnR w w' vr rs ∧ OwnS w w' vd ds ∧ Ext w w'
theorem OwnN.block {w W : World} {v : Value} {l : List Nat} (h : OwnN w W v l) (h0 : 0 < l.length) : ∃ g c, v = .slice (some ⟨g, 0, none⟩) l.length c ∧ w.heap.size ≤ g ∧ g < W.heap.size ∧ ∀ (j x : Nat), l[j]? = some x → W.cell? ⟨g, j, none⟩ = some (Vn x) := by
  obtain ⟨g, cap, hv, _, hlt⟩ := World.ownsRow.form h h0
  subst hv
  have := World.ownsRow.lt h g rfl
  refine ⟨g, cap, rfl, this.1, this.2, fun j x hx => ?_⟩
  have h2 := World.ownsRow.cells h (g := g) rfl j (Vn x) (by rw [List.getElem?_map, hx]; rfl)
  rw [add_at, Nat.zero_add] at h2
  exact h2
theorem items_le (rs : List Rn) (ds : List Sp) : (itemsOf rs).length ≤ (batB rs ds).length := by
  have h : ∀ l : List Rn, (itemsOf l).length ≤ (l.flatMap runB).length := by
    intro l
    induction l with
    | nil => simp [itemsOf]
    | cons r l ih =>
      rw [items_cons, List.length_append, List.flatMap_cons, List.length_append]
      have h1 : (itemsR r).length ≤ r.t.length := by rw [itemsR, itemsGo_len]; exact runesD_len _
      have h2 : r.t.length ≤ (runB r).length := by rw [runB, putT]; simp only [List.length_append]; omega
      omega
  have := h rs
  rw [batB]
  simp only [List.length_append]
  omega
theorem runsAt_succ {l : List UInt8} {n p : Nat} : runsAt l (n + 1) p = match runAt l p with
    | none => none
    | some (r, q) => match runsAt l n q with
      | none => none
      | some (rs, e) => some (r :: rs, e) := rfl
theorem spansAt_succ {l : List UInt8} {n p : Nat} : spansAt l (n + 1) p = match numsAt l 3 p with
    | none => none
    | some (vs, q) => match spansAt l n q with
      | none => none
      | some (ds, e) => some (spanOf vs :: ds, e) := rfl
theorem runAt_nums {l : List UInt8} {p : Nat} (h : numsAt l 6 p = none) : runAt l p = none := by rw [runAt, h]
theorem runAt_text {l : List UInt8} {p q : Nat} {vs : List Nat} (h : numsAt l 6 p = some (vs, q)) (ht : getT l q = none) : runAt l p = none := by rw [runAt, h]; simp only [ht]
theorem runAt_both {l : List UInt8} {p q k : Nat} {vs : List Nat} {t : List UInt8} (h : numsAt l 6 p = some (vs, q)) (ht : getT l q = some (t, k)) : runAt l p = some (runOf vs t, q + k) := by rw [runAt, h]; simp only [ht]
theorem one_num {l : List UInt8} {p : Nat} : numsAt l 1 p = (getB l p).map fun x => ([x.1], p + x.2) := by
  rw [numsAt]
  cases getB l p with
  | none => rfl
  | some x => obtain ⟨v, k⟩ := x; rfl
/-- nothing is told: the result's block is emptied -/
theorem errQ {w Z : World} {q : Nat} (hZ : Ext w Z) (hq : w.heap.size ≤ q) (hz : Z.heap[q]? = some (.cells #[.slice none 0 0, .slice none 0 0] 25 (0, 0))) :
    Ext w ((Z.setCell ⟨q, 0, none⟩ (.slice none 0 0)).setCell ⟨q, 1, none⟩ (.slice none 0 0)) ∧ ((Z.setCell ⟨q, 0, none⟩ (.slice none 0 0)).setCell ⟨q, 1, none⟩ (.slice none 0 0)).heap[q]? = some (.cells #[.slice none 0 0, .slice none 0 0] 25 (0, 0)) :=
  ⟨(hZ.setCell hq _).setCell hq _, heap_setCell_same _ _ 1 _ _ _ (heap_setCell_same _ _ 0 _ _ _ hz)⟩

/-- what the first loop keeps -/
def Gr1 (w w3 : World) (B q4 : Nat) (l : List UInt8) (n m : Nat) (R : Option (List Rn × Nat)) (v6 v8 : Value) (W : World) : Prop :=
  ∃ (i p : Nat) (o : List Rn) (v : Value), v8 = Vi i ∧ v6 = Vi p ∧ i ≤ m ∧ p ≤ n ∧ o.length ≤ p ∧ W.heap[q4]? = some (.cells #[v, .slice none 0 0] 25 (0, 0)) ∧ Hid (OwnR w W v o) ∧ Hid (far B v) ∧ GX B q4 q4 w3 W ∧ Hid ((runsAt l (m - i) p).map (fun x => (o ++ x.1, x.2)) = R)
/-- what the second loop keeps -/
def Gr2 (w w3 : World) (B q4 : Nat) (l : List UInt8) (n m : Nat) (R : Option (List Sp × Nat)) (vr : Value) (rs : List Rn) (v6 v18 : Value) (W : World) : Prop :=
  ∃ (i p : Nat) (o : List Sp) (v : Value), v18 = Vi i ∧ v6 = Vi p ∧ i ≤ m ∧ p ≤ n ∧ o.length ≤ p ∧ W.heap[q4]? = some (.cells #[vr, v] 25 (0, 0)) ∧ Hid (OwnS w W v o) ∧ Hid (far B v) ∧ Hid (OwnR w W vr rs) ∧ (vr.ownBlock = none ∨ vr.ownBlock ≠ v.ownBlock) ∧ GX B q4 q4 w3 W ∧ Hid ((spansAt l (m - i) p).map (fun x => (o ++ x.1, x.2)) = R)
theorem GX.cellq {B q q4 j : Nat} {w W : World} {x : Value} (h : GX B q4 q4 w W) (hc : w.cell? ⟨q, j, none⟩ = some x) (hq : q < B) (hne : q ≠ q4) : W.cell? ⟨q, j, none⟩ = some x := by
  rw [World.cell?_of_block (w := w) (w' := W) (a := ⟨q, j, none⟩) (h.block q hq hne hne)]; exact hc
theorem GX.blkq {B q q4 : Nat} {w W : World} {o : Obj} (h : GX B q4 q4 w W) (hc : w.heap[q]? = some o) (hq : q < B) (hne : q ≠ q4) : W.heap[q]? = some o := by
  rw [h.block q hq hne hne]; exact hc
theorem GX.ext {B p q : Nat} {w W W' : World} (h : GX B p q w W) (hx : Ext W W') : GX B p q w W' :=
  h.on (row := none) ⟨RowKit.Below.os hx, RowKit.Below.tape hx, RowKit.Below.output hx, hx.size, fun k hk _ => RowKit.Below.block hx k hk⟩ (fun k e => by cases e)

section
variable {w : World} {A : Option Addr} {n c : Nat} {l : List UInt8}

set_option maxRecDepth 100000 in
set_option maxHeartbeats 32000000 in
theorem getBatRef_any (hb : Bys w A l) (hl : l.length = n) (hc : n ≤ c) (hn : n ≤ 3000) :
    Calls Tryd.prog 11 #[.slice A n c] w (GrfRet w (getBat l)) := by
  obtain ⟨w1, hw1⟩ : ∃ W1, (w.alloc (.cells #[.slice none 0 0, .slice none 0 0] 25)).alloc (.cells #[.slice none 0 0, .slice none 0 0] 25) = W1 := ⟨_, rfl⟩
  have hsz : (w.alloc (.cells #[.slice none 0 0, .slice none 0 0] 25)).heap.size = w.heap.size + 1 := by simp
  have hB1 : w1.heap.size = w.heap.size + 2 := by rw [← hw1]; simp
  have x1 : Ext w w1 := by rw [← hw1]; exact ((Ext.refl _).alloc _).alloc _
  have hq4 : w1.heap[w.heap.size + 1]? = some (.cells #[.slice none 0 0, .slice none 0 0] 25 (0, 0)) := by rw [← hw1, ← hsz]; exact heap_alloc_new _ _
  have hq2 : w1.heap[w.heap.size]? = some (.cells #[.slice none 0 0, .slice none 0 0] 25 (0, 0)) := by
    rw [← hw1, RowKit.Below.block ((Ext.refl (w.alloc (.cells #[.slice none 0 0, .slice none 0 0] 25))).alloc _) w.heap.size (by omega)]; exact heap_alloc_new _ _
  obtain ⟨G, hG⟩ : ∃ G, getBat l = G := ⟨_, rfl⟩
  have hans : ∀ P, parse l = P → G = match P with
      | none => none
      | some (rs, ds, e) => if e = n ∧ mayB rs ds = true then some (rs, ds) else none := fun P hP => by
    rw [← hG, getBat, if_neg (by omega), hP]
    cases P with
    | none => rfl
    | some x => obtain ⟨rs, ds, e⟩ := x; simp only [hl]
  rw [hG]
  clear hG
  have hfact : ∀ rs ds e, parse l = some (rs, ds, e) → (∀ r ∈ rs, wfR r ∧ r.t.length ≤ 200000) ∧ wfS ds ∧ ds.length ≤ 1000 ∧ rs.length ≤ 10000 ∧ (itemsOf rs).length ≤ 10000 := fun rs ds e hp => by
    obtain ⟨h1, h2, h3, h4, h5⟩ := parse_back hp
    have h7 : (l.take e).length = (batB rs ds).length := by rw [h2]
    rw [List.length_take] at h7
    have h8 := items_le rs ds
    exact ⟨fun r hr => ⟨(h3 r hr).1, by have := text_le (ds := ds) hr; omega⟩, wfS_of h4, by omega, by omega, by omega⟩
  have hnum := Lib.hid (fun (W : World) (hX : Ext w W) (p N : Nat) (hp : p ≤ n) (hN : N ≤ 10) => numbersRef_any A n c l p N W (hb.ext hX) hl (by omega) hp hN)
  have htxt := Lib.hid (fun (W : World) (hX : Ext w W) (p : Nat) => getTextRef_any A n c l p W (hb.ext hX) hl hc (by omega))
  have hg20 : decide ((20000 : Int) < (n : Int)) = false := by rw [decide_eq_false_iff_not]; omega
  have hc1 := Lib.hid (hnum.out w1 x1 0 1 (by omega) (by omega))
  rw [one_num] at hc1
  replace hans := Lib.hid hans
  replace hfact := Lib.hid hfact
  have hlen : ∀ p v k, getB l ((p : Nat) : Int) = some (v, k) → p + k ≤ n ∧ v < 4294967296 := fun p v k h => by
    have := getB_size h
    have h2 := (getB_back h).2.2.2.2
    exact ⟨by omega, h2⟩
  replace hlen := Lib.hid hlen
  clear hb hsz
  cases h0 : getB l ((0 : Nat) : Int) with
  | none =>
    rw [h0] at hc1
    simp only [Option.map_none] at hc1
    have hno := Lib.hid (show G = none by rw [hans.out none (by rw [parse, show (0 : Int) = ((0 : Nat) : Int) from rfl, h0])])
    go_enter Tryd.func11, Tryd.ntmps11
    go_wp2_with fail
    refine hc1.out.mono ?_
    rintro e w2 ⟨rfl, x2⟩
    have hz := RowKit.Below.block x2 w.heap.size (Array.getElem?_eq_some_iff.1 hq2).1
    rw [hq2] at hz
    obtain ⟨hZ, hzz⟩ := errQ (x1.trans x2) (Nat.le_refl _) hz
    obtain ⟨_, _, f0, f1⟩ := blk2 hz
    obtain ⟨z0, z1, _, _⟩ := blk2 hz
    obtain ⟨u0, u1, _, _⟩ := blk2 hzz
    replace hZ := Lib.hid hZ
    clear hz hzz hq2 hq4
    go_wp2
    rw [hno.out]
    exact bodyPost_ret (v := .tuple #[nilB, .bool false]) (by simp [results, Tryd.results11, go_sem, u0, u1]) rfl ⟨rfl, hZ.out⟩
  | some mk =>
    obtain ⟨m, p0⟩ := mk
    rw [h0] at hc1
    obtain ⟨hp0, hm32⟩ := hlen.out 0 m p0 h0
    simp only [Option.map_some] at hc1
    obtain ⟨R, hR⟩ : ∃ R, runsAt l m p0 = R := ⟨_, rfl⟩
    have hRn : R = none → G = none := fun h => by
      rw [hans.out none (by rw [parse, show (0 : Int) = ((0 : Nat) : Int) from rfl, h0]; simp only; rw [hR, h])]
    have hR0 := Lib.hid (show (runsAt l (m - 0) p0).map (fun x => (([] : List Rn) ++ x.1, x.2)) = R by rw [Nat.sub_zero, hR]; cases R <;> rfl)
    replace hRn := Lib.hid hRn
    have hR' := Lib.hid hR
    have h0' := Lib.hid h0
    clear hR h0
    go_enter Tryd.func11, Tryd.ntmps11
    go_wp2_with fail
    obtain ⟨q2, hq2d⟩ : ∃ q, w.heap.size = q := ⟨_, rfl⟩
    refine hc1.out.mono ?_
    rintro e w3 ⟨vm, rfl, om, x3⟩
    rw [hq2d] at hB1 hq4 hq2 ⊢
    obtain ⟨q4, hq4d⟩ : ∃ q, q2 + 1 = q := ⟨_, rfl⟩
    rw [hq4d] at hq4 ⊢
    obtain ⟨gm, cm, hvm, hgm, hgm2, hcm⟩ := OwnN.block om (by simp)
    subst hvm
    have hm0 := hcm 0 m rfl
    obtain ⟨B, hBd⟩ : ∃ B, w3.heap.size = B := ⟨_, rfl⟩
    have hX3 : Ext w w3 := x1.trans x3
    have hq4' : w3.heap[q4]? = some (.cells #[.slice none 0 0, .slice none 0 0] 25 (0, 0)) := by rw [RowKit.Below.block x3 q4 (by omega)]; exact hq4
    have hq2' : w3.heap[q2]? = some (.cells #[.slice none 0 0, .slice none 0 0] 25 (0, 0)) := by rw [RowKit.Below.block x3 q2 (by omega)]; exact hq2
    have hsz3 := x3.size
    have hq2B : q2 < B := by omega
    have hq4B : q4 < B := by omega
    have hgmB : gm < B := by omega
    have hgm4 : gm ≠ q4 := by omega
    have hq24 : q2 ≠ q4 := by omega
    have hend : ∀ (Z : World) (hG : GX B q4 q4 w3 Z), Ext w Z := fun Z hG => hG.down hX3 (by omega) (by omega) (by omega)
    replace hend := Lib.hid hend
    have herr : ∀ (W Z : World) (hG : GX B q4 q4 w3 W) (hx : Ext W Z), Ext w ((Z.setCell ⟨q2, 0, none⟩ (.slice none 0 0)).setCell ⟨q2, 1, none⟩ (.slice none 0 0)) ∧ ((Z.setCell ⟨q2, 0, none⟩ (.slice none 0 0)).setCell ⟨q2, 1, none⟩ (.slice none 0 0)).heap[q2]? = some (.cells #[.slice none 0 0, .slice none 0 0] 25 (0, 0)) ∧ Z.heap[q2]? = some (.cells #[.slice none 0 0, .slice none 0 0] 25 (0, 0)) := fun W Z hG hx => by
      have hz : Z.heap[q2]? = some (.cells #[.slice none 0 0, .slice none 0 0] 25 (0, 0)) := (hG.ext hx).blkq hq2' hq2B hq24
      obtain ⟨e1, e2⟩ := errQ (w := w) (hend.out _ (hG.ext hx)) (by omega) hz
      exact ⟨e1, e2, hz⟩
    replace herr := Lib.hid herr
    clear hc1 om hcm x3 x1 hw1 hq4 hq2
    go_wp2
    go_loopw [6, 8] (Gr1 w w3 B q4 l n m R) (fun _ i _ => m - (intOf i).toNat)
    case atStart => exact ⟨0, p0, [], .slice none 0 0, rfl, by go_num, Nat.zero_le _, by omega, by simp, hq4', Lib.hid (OwnR.nil _ _), Lib.hid (far.nil _), GX.refl B q4 q4 w3 (by omega), hR0⟩
    case round =>
      clear hR0 hq4'
      obtain ⟨i, p, o, v, rfl, rfl, hi, hpn, hop, hq, ho, hf, hG, hrel⟩ := hrel
      have hE : Ext w wr := hend.out _ hG
      have hmW := hG.cellq hm0 hgmB hgm4
      by_cases hlt : i < m
      · have hs := hrel.out
        rw [show m - i = (m - (i + 1)) + 1 by omega, runsAt_succ] at hs
        have hc2 := Lib.hid (hnum.out wr hE p 6 hpn (by omega))
        cases hn6 : numsAt l 6 p with
        | none =>
          rw [hn6] at hc2
          rw [runAt_nums hn6] at hs
          have hno := Lib.hid (hRn.out hs.symm)
          clear hs hrel hn6
          go_wp2_with fail
          refine hc2.out.mono ?_
          rintro e w4 ⟨rfl, x4⟩
          obtain ⟨hZ, hzz, hz⟩ := herr.out wr w4 hG x4
          obtain ⟨z0, z1, f0, f1⟩ := blk2 hz
          obtain ⟨y0, y1, _, _⟩ := blk2 hzz
          replace hZ := Lib.hid hZ
          clear hz hzz hq
          go_wp2
          rw [hno.out]
          exact bodyPost_ret (v := .tuple #[nilB, .bool false]) (by simp [results, Tryd.results11, go_sem, y0, y1]) rfl ⟨rfl, hZ.out⟩
        | some vq =>
          obtain ⟨vs, q⟩ := vq
          obtain ⟨hqn, _, hvl, hv32, hpq⟩ := numsAt_back (by rw [hl]; exact hpn) hn6
          rw [hl] at hqn
          rw [hn6] at hc2
          cases ht : getT l ((q : Nat) : Int) with
          | none =>
            rw [runAt_text hn6 ht] at hs
            have hno := Lib.hid (hRn.out hs.symm)
            clear hs hrel hn6
            go_wp2_with fail
            refine hc2.out.mono ?_
            rintro e w4 ⟨vN, rfl, oN, x4⟩
            have hc3 := Lib.hid (htxt.out w4 (hE.trans x4) q)
            rw [ht] at hc3
            simp only [getTRefRet] at hc3
            go_wp2_with fail
            refine hc3.out.mono ?_
            rintro e w5 ⟨rfl, x5⟩
            obtain ⟨hZ, hzz, hz⟩ := herr.out wr w5 hG (x4.trans x5)
            obtain ⟨z0, z1, f0, f1⟩ := blk2 hz
            obtain ⟨y0, y1, _, _⟩ := blk2 hzz
            replace hZ := Lib.hid hZ
            clear hz hzz hq
            go_wp2
            rw [hno.out]
            exact bodyPost_ret (v := .tuple #[nilB, .bool false]) (by simp [results, Tryd.results11, go_sem, y0, y1]) rfl ⟨rfl, hZ.out⟩
          | some tk =>
            obtain ⟨t, k⟩ := tk
            have htn := (getT_back' (l := l) (p := q) (by omega) ht).1
            rw [hl] at htn
            rw [runAt_both hn6 ht] at hs
            simp only at hs
            obtain ⟨u0, u1, u2, u3, u4, u5, rfl⟩ := list6N hvl
            have hs2 := Lib.hid (show (runsAt l (m - (i + 1)) (q + k)).map (fun x => (o ++ [(⟨u0, u1, u2, u3, u4, u5, t⟩ : Rn)] ++ x.1, x.2)) = R by
              rw [← hs]
              cases runsAt l (m - (i + 1)) (q + k) with
              | none => rfl
              | some x => simp [runOf])
            clear hs hrel hn6 hvl hv32
            go_wp2_with fail
            refine hc2.out.mono ?_
            rintro e w4 ⟨vN, rfl, oN, x4⟩
            obtain ⟨g, cN, hvN, _, _, hcN⟩ := OwnN.block oN (by simp)
            subst hvN
            have hc3 := Lib.hid (htxt.out w4 (hE.trans x4) q)
            rw [ht] at hc3
            simp only [getTRefRet] at hc3
            clear hc2
            go_wp2_with fail
            refine hc3.out.mono ?_
            rintro e w5 ⟨rfl, x5⟩
            have hn0 := x5.keep (hcN 0 u0 rfl)
            have hn1 := x5.keep (hcN 1 u1 rfl)
            have hn2 := x5.keep (hcN 2 u2 rfl)
            have hn3 := x5.keep (hcN 3 u3 rfl)
            have hn4 := x5.keep (hcN 4 u4 rfl)
            have hn5 := x5.keep (hcN 5 u5 rfl)
            have x45 := x4.trans x5
            have hcell := x45.keep (blk2 hq).1
            have hqW : w5.heap[q4]? = some (.cells #[v, .slice none 0 0] 25 (0, 0)) := by rw [RowKit.Below.block x45 q4 (Array.getElem?_eq_some_iff.1 hq).1]; exact hq
            have hG5 := hG.ext x45
            have ho5 := Lib.hid (ho.out.ext x45)
            have hE5 := hE.trans x45
            clear hc3 hcN oN x4 x5 x45 hq hG ho hmW hE
            go_wp2_with fail
            refine wp_soft_frame Ext 26 (bgrTab q4 g cN v u0 u1 u2 u3 u4 u5 t) (by kernel_rfl) (by kernel_rfl) (fun _ _ _ => Ext.trans) ((Ext.refl _).drew) rfl (by show List.Nodup [65, 66, 67, 68, 69, 70, 71, 72, 73, 74, 75, 76, 77, 78, 79, 80, 81, 82, 83, 84, 85, 86, 87, 88, 89, 90]; decide) (by show ∀ d ∈ [65, 66, 67, 68, 69, 70, 71, 72, 73, 74, 75, 76, 77, 78, 79, 80, 81, 82, 83, 84, 85, 86, 87, 88, 89, 90], d < 153; decide) (bgrTab_mono q4 g cN v u0 u1 u2 u3 u4 u5 t) ?_ ⟨?_, ?_, ?_, ?_, ?_, ?_, ?_, ?_, ?_, ?_, ?_, ?_, ?_, ?_, ?_, ?_, ?_, ?_, ?_, ?_, ?_, ?_, ?_, ?_, ?_, ?_, trivial⟩
            · intro W' vs hT' hRx
              match vs, hT' with
              | [v0', v1', v2', v3', v4', v5', v6', v7', v8', v9', v10', v11', v12', v13', v14', v15', v16', v17', v18', v19', v20', v21', v22', v23', v24', v25'], ⟨e0, e1, e2, e3, e4, e5, e6, e7, e8, e9, e10, e11, e12, e13, e14, e15, e16, e17, e18, e19, e20, e21, e22, e23, e24, e25, _⟩ =>
                simp only [bgrTab, List.map_cons, List.map_nil, List.zip_cons_cons, List.zip_nil_left, putAll, List.setIfInBounds_toArray, List.set_cons_zero, List.set_cons_succ, List.drop_succ_cons, List.drop_zero]
                simp only at e0 e1 e2 e3 e4 e5 e6 e7 e8 e9 e10 e11 e12 e13 e14 e15 e16 e17 e18 e19 e20 e21 e22 e23 e24 e25
                obtain ⟨qb, e25, hbox⟩ := e25
                rw [e0, e1, e2, e3, e4, e5, e6, e7, e8, e9, e10, e11, e12, e13, e14, e15, e16, e17, e18, e19, e20, e21, e22, e23, e24, e25]
                clear e0 e1 e2 e3 e4 e5 e6 e7 e8 e9 e10 e11 e12 e13 e14 e15 e16 e17 e18 e19 e20 e21 e22 e23 e24 e25 v0' v1' v2' v3' v4' v5' v6' v7' v8' v9' v10' v11' v12' v13' v14' v15' v16' v17' v18' v19' v20' v21' v22' v23' v24' v25' hT'
                have hq6 : W'.heap[q4]? = some (.cells #[v, .slice none 0 0] 25 (0, 0)) := by rw [RowKit.Below.block hRx q4 (Array.getElem?_eq_some_iff.1 hqW).1]; exact hqW
                have hlt6 : q4 < W'.heap.size := (Array.getElem?_eq_some_iff.1 hq6).1
                have hG6 := hG5.ext hRx
                refine wpList_append_R (w0 := w) rfl (.tmp 66) (.tmp 90) rfl v o rfl (ho5.out.ext hRx) (hE5.trans hRx) _ 1 1 [⟨u0, u1, u2, u3, u4, u5, t⟩] rfl rfl hbox.row (by simp only [List.length_cons, List.length_nil]; omega) ?_
                intro v7 w7 o7 x7 g7 b7
                obtain ⟨A7, c7, hv7, _, _⟩ := OwnR.open o7
                rw [show (o ++ [(⟨u0, u1, u2, u3, u4, u5, t⟩ : Rn)]).length = o.length + 1 by simp] at hv7
                subst hv7
                have hq7 : w7.heap[q4]? = some (.cells #[v, .slice none 0 0] 25 (0, 0)) := by rw [g7.block q4 hlt6 (fun e => by have := hf.out q4 e.symm; omega)]; exact hq6
                obtain ⟨y0, y1, f0, f1⟩ := blk2 hq7
                have hf7 := far.on hf.out b7 hG6.size
                have hst7 : RX q4 w7 (w7.setCell ⟨q4, 0, none⟩ (.slice A7 (o.length + 1) c7)) := RX.set (RX.refl q4 w7) 0 _ (.inr rfl)
                have hadd : IntKind.i64.wrap ((q : Int) + (k : Int)) = ((q + k : Nat) : Int) := by rw [IntWalk.i64_in _ (by omega)]; omega
                have hrel7 : Gr1 w w3 B q4 l n m R (Vi ((q + k : Nat) : Int)) (Vi ((i + 1 : Nat) : Int)) (w7.setCell ⟨q4, 0, none⟩ (.slice A7 (o.length + 1) c7)) :=
                  ⟨i + 1, q + k, o ++ [⟨u0, u1, u2, u3, u4, u5, t⟩], _, rfl, rfl, by omega, htn, by simp only [List.length_append, List.length_cons, List.length_nil]; omega, heap_setCell_same _ _ 0 _ _ _ hq7, Lib.hid (o7.kept hst7 (hf7.ne hq4B)), Lib.hid hf7, (hG6.on g7 (fun j e => .inl (hf.out j e))).set _, hs2⟩
                replace hrel7 := Lib.hid hrel7
                clear hst7 hq7 hq6 ho5 hG5 hG6 hqW hf hbox
                go_wp2
                go_roundw
                case rel => exact hrel7.out
                case measure => simp [intOf]; omega
            · refine softR_val 65 _ (by kernel_rfl) rfl rfl ?_
              intro a W hx hout hdep
              have ev4 : a.tmps[4]?.getD undef = .pointer (some ⟨q4, 0, none⟩) := by rw [← Array.getD_eq_getD_getElem?]; exact hout 4 (by show 4 ∉ [65, 66, 67, 68, 69, 70, 71, 72, 73, 74, 75, 76, 77, 78, 79, 80, 81, 82, 83, 84, 85, 86, 87, 88, 89, 90]; decide)
              refine ⟨rfl, .pointer (some ⟨q4, 0, none⟩), W, ?_, rfl, Ext.refl _⟩
              simp [ev4, execOp, go_sem]
            · refine softR_val 66 _ (by kernel_rfl) rfl rfl ?_
              intro a W hx hout hdep
              have ev65 : a.tmps[65]?.getD undef = .pointer (some ⟨q4, 0, none⟩) := by rw [← Array.getD_eq_getD_getElem?]; exact (hdep ⟨0, .data⟩ (by simp) rfl 65 _ rfl).1
              have q0 := hx.keep hcell
              refine ⟨rfl, v, W, ?_, rfl, Ext.refl _⟩
              simp [ev65, q0, execOp, go_sem]
            · refine softR_val 67 _ (by kernel_rfl) rfl rfl ?_
              intro a W hx hout hdep
              have ev9 : a.tmps[9]?.getD undef = .slice (some ⟨g, 0, none⟩) 6 cN := by rw [← Array.getD_eq_getD_getElem?]; exact hout 9 (by show 9 ∉ [65, 66, 67, 68, 69, 70, 71, 72, 73, 74, 75, 76, 77, 78, 79, 80, 81, 82, 83, 84, 85, 86, 87, 88, 89, 90]; decide)
              refine ⟨rfl, .slice (some ⟨g, 0, none⟩) 6 cN, W, ?_, rfl, Ext.refl _⟩
              simp [ev9, execOp, go_sem]
            · refine softR_val 68 _ (by kernel_rfl) rfl rfl ?_
              intro a W hx hout hdep
              have ev67 : a.tmps[67]?.getD undef = .slice (some ⟨g, 0, none⟩) 6 cN := by rw [← Array.getD_eq_getD_getElem?]; exact (hdep ⟨2, .data⟩ (by simp) rfl 67 _ rfl).1
              refine ⟨rfl, .pointer (some ⟨g, 0, none⟩), W, ?_, rfl, Ext.refl _⟩
              simp [ev67, execOp, go_sem]
            · refine softR_val 69 _ (by kernel_rfl) rfl rfl ?_
              intro a W hx hout hdep
              have ev68 : a.tmps[68]?.getD undef = .pointer (some ⟨g, 0, none⟩) := by rw [← Array.getD_eq_getD_getElem?]; exact (hdep ⟨3, .data⟩ (by simp) rfl 68 _ rfl).1
              have q0 := hx.keep hn0
              refine ⟨rfl, Vu u0, W, ?_, rfl, Ext.refl _⟩
              simp [ev68, q0, execOp, go_sem]
            · refine softR_val 70 _ (by kernel_rfl) rfl rfl ?_
              intro a W hx hout hdep
              have ev9 : a.tmps[9]?.getD undef = .slice (some ⟨g, 0, none⟩) 6 cN := by rw [← Array.getD_eq_getD_getElem?]; exact hout 9 (by show 9 ∉ [65, 66, 67, 68, 69, 70, 71, 72, 73, 74, 75, 76, 77, 78, 79, 80, 81, 82, 83, 84, 85, 86, 87, 88, 89, 90]; decide)
              refine ⟨rfl, .slice (some ⟨g, 0, none⟩) 6 cN, W, ?_, rfl, Ext.refl _⟩
              simp [ev9, execOp, go_sem]
            · refine softR_val 71 _ (by kernel_rfl) rfl rfl ?_
              intro a W hx hout hdep
              have ev70 : a.tmps[70]?.getD undef = .slice (some ⟨g, 0, none⟩) 6 cN := by rw [← Array.getD_eq_getD_getElem?]; exact (hdep ⟨5, .data⟩ (by simp) rfl 70 _ rfl).1
              refine ⟨rfl, .pointer (some ⟨g, 1, none⟩), W, ?_, rfl, Ext.refl _⟩
              simp [ev70, execOp, go_sem]
            · refine softR_val 72 _ (by kernel_rfl) rfl rfl ?_
              intro a W hx hout hdep
              have ev71 : a.tmps[71]?.getD undef = .pointer (some ⟨g, 1, none⟩) := by rw [← Array.getD_eq_getD_getElem?]; exact (hdep ⟨6, .data⟩ (by simp) rfl 71 _ rfl).1
              have q0 := hx.keep hn1
              refine ⟨rfl, Vu u1, W, ?_, rfl, Ext.refl _⟩
              simp [ev71, q0, execOp, go_sem]
            · refine softR_val 73 _ (by kernel_rfl) rfl rfl ?_
              intro a W hx hout hdep
              have ev69 : a.tmps[69]?.getD undef = Vu u0 := by rw [← Array.getD_eq_getD_getElem?]; exact (hdep ⟨4, .data⟩ (by simp) rfl 69 _ rfl).1
              have ev72 : a.tmps[72]?.getD undef = Vu u1 := by rw [← Array.getD_eq_getD_getElem?]; exact (hdep ⟨7, .data⟩ (by simp) rfl 72 _ rfl).1
              refine ⟨rfl, idv u0 u1, W, ?_, rfl, Ext.refl _⟩
              simp [ev69, ev72, execOp, go_sem]
            · refine softR_val 74 _ (by kernel_rfl) rfl rfl ?_
              intro a W hx hout hdep
              have ev9 : a.tmps[9]?.getD undef = .slice (some ⟨g, 0, none⟩) 6 cN := by rw [← Array.getD_eq_getD_getElem?]; exact hout 9 (by show 9 ∉ [65, 66, 67, 68, 69, 70, 71, 72, 73, 74, 75, 76, 77, 78, 79, 80, 81, 82, 83, 84, 85, 86, 87, 88, 89, 90]; decide)
              refine ⟨rfl, .slice (some ⟨g, 0, none⟩) 6 cN, W, ?_, rfl, Ext.refl _⟩
              simp [ev9, execOp, go_sem]
            · refine softR_val 75 _ (by kernel_rfl) rfl rfl ?_
              intro a W hx hout hdep
              have ev74 : a.tmps[74]?.getD undef = .slice (some ⟨g, 0, none⟩) 6 cN := by rw [← Array.getD_eq_getD_getElem?]; exact (hdep ⟨9, .data⟩ (by simp) rfl 74 _ rfl).1
              refine ⟨rfl, .pointer (some ⟨g, 2, none⟩), W, ?_, rfl, Ext.refl _⟩
              simp [ev74, execOp, go_sem]
            · refine softR_val 76 _ (by kernel_rfl) rfl rfl ?_
              intro a W hx hout hdep
              have ev75 : a.tmps[75]?.getD undef = .pointer (some ⟨g, 2, none⟩) := by rw [← Array.getD_eq_getD_getElem?]; exact (hdep ⟨10, .data⟩ (by simp) rfl 75 _ rfl).1
              have q0 := hx.keep hn2
              refine ⟨rfl, Vu u2, W, ?_, rfl, Ext.refl _⟩
              simp [ev75, q0, execOp, go_sem]
            · refine softR_val 77 _ (by kernel_rfl) rfl rfl ?_
              intro a W hx hout hdep
              have ev9 : a.tmps[9]?.getD undef = .slice (some ⟨g, 0, none⟩) 6 cN := by rw [← Array.getD_eq_getD_getElem?]; exact hout 9 (by show 9 ∉ [65, 66, 67, 68, 69, 70, 71, 72, 73, 74, 75, 76, 77, 78, 79, 80, 81, 82, 83, 84, 85, 86, 87, 88, 89, 90]; decide)
              refine ⟨rfl, .slice (some ⟨g, 0, none⟩) 6 cN, W, ?_, rfl, Ext.refl _⟩
              simp [ev9, execOp, go_sem]
            · refine softR_val 78 _ (by kernel_rfl) rfl rfl ?_
              intro a W hx hout hdep
              have ev77 : a.tmps[77]?.getD undef = .slice (some ⟨g, 0, none⟩) 6 cN := by rw [← Array.getD_eq_getD_getElem?]; exact (hdep ⟨12, .data⟩ (by simp) rfl 77 _ rfl).1
              refine ⟨rfl, .pointer (some ⟨g, 3, none⟩), W, ?_, rfl, Ext.refl _⟩
              simp [ev77, execOp, go_sem]
            · refine softR_val 79 _ (by kernel_rfl) rfl rfl ?_
              intro a W hx hout hdep
              have ev78 : a.tmps[78]?.getD undef = .pointer (some ⟨g, 3, none⟩) := by rw [← Array.getD_eq_getD_getElem?]; exact (hdep ⟨13, .data⟩ (by simp) rfl 78 _ rfl).1
              have q0 := hx.keep hn3
              refine ⟨rfl, Vu u3, W, ?_, rfl, Ext.refl _⟩
              simp [ev78, q0, execOp, go_sem]
            · refine softR_val 80 _ (by kernel_rfl) rfl rfl ?_
              intro a W hx hout hdep
              have ev76 : a.tmps[76]?.getD undef = Vu u2 := by rw [← Array.getD_eq_getD_getElem?]; exact (hdep ⟨11, .data⟩ (by simp) rfl 76 _ rfl).1
              have ev79 : a.tmps[79]?.getD undef = Vu u3 := by rw [← Array.getD_eq_getD_getElem?]; exact (hdep ⟨14, .data⟩ (by simp) rfl 79 _ rfl).1
              refine ⟨rfl, idv u2 u3, W, ?_, rfl, Ext.refl _⟩
              simp [ev76, ev79, execOp, go_sem]
            · refine softR_val 81 _ (by kernel_rfl) rfl rfl ?_
              intro a W hx hout hdep
              have ev9 : a.tmps[9]?.getD undef = .slice (some ⟨g, 0, none⟩) 6 cN := by rw [← Array.getD_eq_getD_getElem?]; exact hout 9 (by show 9 ∉ [65, 66, 67, 68, 69, 70, 71, 72, 73, 74, 75, 76, 77, 78, 79, 80, 81, 82, 83, 84, 85, 86, 87, 88, 89, 90]; decide)
              refine ⟨rfl, .slice (some ⟨g, 0, none⟩) 6 cN, W, ?_, rfl, Ext.refl _⟩
              simp [ev9, execOp, go_sem]
            · refine softR_val 82 _ (by kernel_rfl) rfl rfl ?_
              intro a W hx hout hdep
              have ev81 : a.tmps[81]?.getD undef = .slice (some ⟨g, 0, none⟩) 6 cN := by rw [← Array.getD_eq_getD_getElem?]; exact (hdep ⟨16, .data⟩ (by simp) rfl 81 _ rfl).1
              refine ⟨rfl, .pointer (some ⟨g, 4, none⟩), W, ?_, rfl, Ext.refl _⟩
              simp [ev81, execOp, go_sem]
            · refine softR_val 83 _ (by kernel_rfl) rfl rfl ?_
              intro a W hx hout hdep
              have ev82 : a.tmps[82]?.getD undef = .pointer (some ⟨g, 4, none⟩) := by rw [← Array.getD_eq_getD_getElem?]; exact (hdep ⟨17, .data⟩ (by simp) rfl 82 _ rfl).1
              have q0 := hx.keep hn4
              refine ⟨rfl, Vu u4, W, ?_, rfl, Ext.refl _⟩
              simp [ev82, q0, execOp, go_sem]
            · refine softR_val 84 _ (by kernel_rfl) rfl rfl ?_
              intro a W hx hout hdep
              have ev9 : a.tmps[9]?.getD undef = .slice (some ⟨g, 0, none⟩) 6 cN := by rw [← Array.getD_eq_getD_getElem?]; exact hout 9 (by show 9 ∉ [65, 66, 67, 68, 69, 70, 71, 72, 73, 74, 75, 76, 77, 78, 79, 80, 81, 82, 83, 84, 85, 86, 87, 88, 89, 90]; decide)
              refine ⟨rfl, .slice (some ⟨g, 0, none⟩) 6 cN, W, ?_, rfl, Ext.refl _⟩
              simp [ev9, execOp, go_sem]
            · refine softR_val 85 _ (by kernel_rfl) rfl rfl ?_
              intro a W hx hout hdep
              have ev84 : a.tmps[84]?.getD undef = .slice (some ⟨g, 0, none⟩) 6 cN := by rw [← Array.getD_eq_getD_getElem?]; exact (hdep ⟨19, .data⟩ (by simp) rfl 84 _ rfl).1
              refine ⟨rfl, .pointer (some ⟨g, 5, none⟩), W, ?_, rfl, Ext.refl _⟩
              simp [ev84, execOp, go_sem]
            · refine softR_val 86 _ (by kernel_rfl) rfl rfl ?_
              intro a W hx hout hdep
              have ev85 : a.tmps[85]?.getD undef = .pointer (some ⟨g, 5, none⟩) := by rw [← Array.getD_eq_getD_getElem?]; exact (hdep ⟨20, .data⟩ (by simp) rfl 85 _ rfl).1
              have q0 := hx.keep hn5
              refine ⟨rfl, Vu u5, W, ?_, rfl, Ext.refl _⟩
              simp [ev85, q0, execOp, go_sem]
            · refine softR_val 87 _ (by kernel_rfl) rfl rfl ?_
              intro a W hx hout hdep
              have ev83 : a.tmps[83]?.getD undef = Vu u4 := by rw [← Array.getD_eq_getD_getElem?]; exact (hdep ⟨18, .data⟩ (by simp) rfl 83 _ rfl).1
              have ev86 : a.tmps[86]?.getD undef = Vu u5 := by rw [← Array.getD_eq_getD_getElem?]; exact (hdep ⟨21, .data⟩ (by simp) rfl 86 _ rfl).1
              refine ⟨rfl, idv u4 u5, W, ?_, rfl, Ext.refl _⟩
              simp [ev83, ev86, execOp, go_sem]
            · refine softR_val 88 _ (by kernel_rfl) rfl rfl ?_
              intro a W hx hout hdep
              have ev12 : a.tmps[12]?.getD undef = Vt t := by rw [← Array.getD_eq_getD_getElem?]; exact hout 12 (by show 12 ∉ [65, 66, 67, 68, 69, 70, 71, 72, 73, 74, 75, 76, 77, 78, 79, 80, 81, 82, 83, 84, 85, 86, 87, 88, 89, 90]; decide)
              refine ⟨rfl, Vt t, W, ?_, rfl, Ext.refl _⟩
              simp [ev12, execOp, go_sem]
            · refine softR_val 89 _ (by kernel_rfl) rfl rfl ?_
              intro a W hx hout hdep
              have ev73 : a.tmps[73]?.getD undef = idv u0 u1 := by rw [← Array.getD_eq_getD_getElem?]; exact (hdep ⟨8, .data⟩ (by simp) rfl 73 _ rfl).1
              have ev80 : a.tmps[80]?.getD undef = idv u2 u3 := by rw [← Array.getD_eq_getD_getElem?]; exact (hdep ⟨15, .data⟩ (by simp) rfl 80 _ rfl).1
              have ev87 : a.tmps[87]?.getD undef = idv u4 u5 := by rw [← Array.getD_eq_getD_getElem?]; exact (hdep ⟨22, .data⟩ (by simp) rfl 87 _ rfl).1
              have ev88 : a.tmps[88]?.getD undef = Vt t := by rw [← Array.getD_eq_getD_getElem?]; exact (hdep ⟨23, .data⟩ (by simp) rfl 88 _ rfl).1
              refine ⟨rfl, rnv ⟨u0, u1, u2, u3, u4, u5, t⟩, W, ?_, rfl, Ext.refl _⟩
              simp [ev73, ev80, ev87, ev88, execOp, go_sem]
            · refine softR_val 90 _ (by kernel_rfl) rfl rfl ?_
              intro a W hx hout hdep
              have ev89 : a.tmps[89]?.getD undef = rnv ⟨u0, u1, u2, u3, u4, u5, t⟩ := by rw [← Array.getD_eq_getD_getElem?]; exact (hdep ⟨24, .data⟩ (by simp) rfl 89 _ rfl).1
              refine ⟨rfl, .slice (some ⟨W.heap.size, 0, none⟩) 1 1, _, ?_, ⟨_, rfl, BoxR.new W ⟨u0, u1, u2, u3, u4, u5, t⟩⟩, (Ext.refl W).alloc _⟩
              simp [ev89, execOp, go_sem]
      · obtain rfl : i = m := by omega
        have hs := hrel.out
        rw [Nat.sub_self] at hs
        simp only [runsAt, Option.map_some, List.append_nil] at hs
        have hpar := Lib.hid (show runsAt l i p0 = some (o, p) by rw [hR'.out, hs])
        have hc4 := Lib.hid (hnum.out wr hE p 1 hpn (by omega))
        rw [one_num] at hc4
        clear hs hrel hRn hR'
        cases h1 : getB l ((p : Nat) : Int) with
        | none =>
          rw [h1] at hc4
          simp only [Option.map_none] at hc4
          have hno := Lib.hid (show G = none by rw [hans.out none (by rw [parse, show (0 : Int) = ((0 : Nat) : Int) from rfl, h0'.out]; simp only; rw [hpar.out]; simp only [h1])])
          go_wp2_with fail
          refine hc4.out.mono ?_
          rintro e w4 ⟨rfl, x4⟩
          obtain ⟨hZ, hzz, hz⟩ := herr.out wr w4 hG x4
          obtain ⟨z0, z1, f0, f1⟩ := blk2 hz
          obtain ⟨y0, y1, _, _⟩ := blk2 hzz
          replace hZ := Lib.hid hZ
          clear hz hzz hq
          go_wp2
          rw [hno.out]
          exact bodyPost_ret (v := .tuple #[nilB, .bool false]) (by simp [results, Tryd.results11, go_sem, y0, y1]) rfl ⟨rfl, hZ.out⟩
        | some mk =>
          obtain ⟨m', k'⟩ := mk
          rw [h1] at hc4
          obtain ⟨hp1, hm'32⟩ := hlen.out p m' k' h1
          simp only [Option.map_some] at hc4
          obtain ⟨D, hD⟩ : ∃ D, spansAt l m' (p + k') = D := ⟨_, rfl⟩
          have hpa0 : D = none → parse l = none := fun h => by
            rw [parse, show (0 : Int) = ((0 : Nat) : Int) from rfl, h0'.out]
            simp only
            rw [hpar.out]
            simp only [h1, hD, h]
          have hpa : ∀ ds e, D = some (ds, e) → parse l = some (o, ds, e) := fun ds e h => by
            rw [parse, show (0 : Int) = ((0 : Nat) : Int) from rfl, h0'.out]
            simp only
            rw [hpar.out]
            simp only [h1, hD, h]
          have hDn := Lib.hid (fun (h : D = none) => show G = none by rw [hans.out none (hpa0 h)])
          have hD0 := Lib.hid (show (spansAt l (m' - 0) (p + k')).map (fun x => (([] : List Sp) ++ x.1, x.2)) = D by rw [Nat.sub_zero, hD]; cases D <;> rfl)
          replace hpa := Lib.hid hpa
          clear hD h1 hpar h0' hpa0
          go_wp2_with fail
          refine hc4.out.mono ?_
          rintro e w4 ⟨vm', rfl, om', x4⟩
          obtain ⟨gm', cm', hvm', hgm1', hgm2', hcm'⟩ := OwnN.block om' (by simp)
          subst hvm'
          have hm0' := hcm' 0 m' rfl
          have hq4w : q4 < wr.heap.size := (Array.getElem?_eq_some_iff.1 hq).1
          have hq' : w4.heap[q4]? = some (.cells #[v, .slice none 0 0] 25 (0, 0)) := by rw [RowKit.Below.block x4 q4 hq4w]; exact hq
          have hG4 := hG.ext x4
          have ho4 := ho.out.ext x4
          obtain ⟨B2, hB2d⟩ : ∃ B2, w4.heap.size = B2 := ⟨_, rfl⟩
          have hBB : B ≤ B2 := by have := hG4.size; omega
          have hE4 := hE.trans x4
          have hend2 : ∀ (Z : World) (hG : GX B2 q4 q4 w4 Z), Ext w Z := fun Z hG => hG.down hE4 (by omega) (by omega) (by omega)
          replace hend2 := Lib.hid hend2
          have hq2w : w4.heap[q2]? = some (.cells #[.slice none 0 0, .slice none 0 0] 25 (0, 0)) := hG4.blkq hq2' hq2B hq24
          have herr2 : ∀ (W Z : World) (hG : GX B2 q4 q4 w4 W) (hx : Ext W Z), Ext w ((Z.setCell ⟨q2, 0, none⟩ (.slice none 0 0)).setCell ⟨q2, 1, none⟩ (.slice none 0 0)) ∧ ((Z.setCell ⟨q2, 0, none⟩ (.slice none 0 0)).setCell ⟨q2, 1, none⟩ (.slice none 0 0)).heap[q2]? = some (.cells #[.slice none 0 0, .slice none 0 0] 25 (0, 0)) ∧ Z.heap[q2]? = some (.cells #[.slice none 0 0, .slice none 0 0] 25 (0, 0)) := fun W Z hG hx => by
            have hz : Z.heap[q2]? = some (.cells #[.slice none 0 0, .slice none 0 0] 25 (0, 0)) := (hG.ext hx).blkq hq2w (by omega) hq24
            obtain ⟨e1, e2⟩ := errQ (w := w) (hend2.out _ (hG.ext hx)) (by omega) hz
            exact ⟨e1, e2, hz⟩
          replace herr2 := Lib.hid herr2
          have hgB2 : gm' < B2 := by omega
          have hg4' : gm' ≠ q4 := by omega
          have hq4B2 : q4 < B2 := by omega
          have hq2B2 : q2 < B2 := by omega
          have hfB := hf.out
          have hdis0 : v.ownBlock = none ∨ v.ownBlock ≠ (Value.slice none 0 0).ownBlock := by
            cases h : v.ownBlock with
            | none => exact .inl rfl
            | some g => exact .inr (fun e => by cases e)
          replace ho4 := Lib.hid ho4
          clear hc4 om' hcm' x4 hq hG hG4 herr hend ho hmW hm0 hq2'
          go_wp2
          go_loopw [6, 18] (Gr2 w w4 B2 q4 l n m' D v o) (fun _ j _ => m' - (intOf j).toNat)
          case atStart => exact ⟨0, p + k', [], .slice none 0 0, rfl, by go_num, Nat.zero_le _, hp1, by simp, hq', Lib.hid (OwnS.nil _ _), Lib.hid (far.nil _), ho4, hdis0, GX.refl B2 q4 q4 w4 (by omega), hD0⟩
          case round =>
            clear hD0 hq' ho4 hdis0 hop hpn
            obtain ⟨j, p, o2, v2, rfl, rfl, hj, hpn, hop, hq, ho2, hf2, ho, hdis, hG, hrel⟩ := hrel
            have hE : Ext w wr := hend2.out _ hG
            have hmW := hG.cellq hm0' hgB2 hg4'
            by_cases hlt : j < m'
            · have hs := hrel.out
              rw [show m' - j = (m' - (j + 1)) + 1 by omega, spansAt_succ] at hs
              have hc2 := Lib.hid (hnum.out wr hE p 3 hpn (by omega))
              cases hn3 : numsAt l 3 p with
              | none =>
                rw [hn3] at hc2 hs
                have hno := Lib.hid (hDn.out hs.symm)
                clear hs hrel hn3
                go_wp2_with fail
                refine hc2.out.mono ?_
                rintro e w5 ⟨rfl, x5⟩
                obtain ⟨hZ, hzz, hz⟩ := herr2.out wr w5 hG x5
                obtain ⟨z0, z1, f0, f1⟩ := blk2 hz
                obtain ⟨y0, y1, _, _⟩ := blk2 hzz
                replace hZ := Lib.hid hZ
                clear hz hzz hq
                go_wp2
                rw [hno.out]
                exact bodyPost_ret (v := .tuple #[nilB, .bool false]) (by simp [results, Tryd.results11, go_sem, y0, y1]) rfl ⟨rfl, hZ.out⟩
              | some vq =>
                obtain ⟨vs, q⟩ := vq
                obtain ⟨hqn, _, hvl, hv32, hpq⟩ := numsAt_back (by rw [hl]; exact hpn) hn3
                rw [hl] at hqn
                rw [hn3] at hc2 hs
                simp only at hs
                obtain ⟨u0, u1, u2, rfl⟩ := list3N hvl
                have hs2 := Lib.hid (show (spansAt l (m' - (j + 1)) q).map (fun x => (o2 ++ [(((u0 : Int), (u1 : Int), (u2 : Int)) : Sp)] ++ x.1, x.2)) = D by
                  rw [← hs]
                  cases spansAt l (m' - (j + 1)) q with
                  | none => rfl
                  | some x => simp [spanOf])
                clear hs hrel hn3 hvl hv32
                go_wp2_with fail
                refine hc2.out.mono ?_
                rintro e w5 ⟨vN, rfl, oN, x5⟩
                obtain ⟨g, cN, hvN, _, _, hcN⟩ := OwnN.block oN (by simp)
                subst hvN
                have hn0 := hcN 0 u0 rfl
                have hn1 := hcN 1 u1 rfl
                have hn2 := hcN 2 u2 rfl
                have hcell := x5.keep (blk2 hq).2.1
                have hqW : w5.heap[q4]? = some (.cells #[v, v2] 25 (0, 0)) := by rw [RowKit.Below.block x5 q4 (Array.getElem?_eq_some_iff.1 hq).1]; exact hq
                have hG5 := hG.ext x5
                have ho5 := Lib.hid (ho.out.ext x5)
                have ho25 := Lib.hid (ho2.out.ext x5)
                have hE5 := hE.trans x5
                clear hc2 hcN oN x5 hq hG ho ho2 hmW hE
                go_wp2_with fail
                refine wp_soft_frame Ext 13 (bgsTab q4 g cN v2 u0 u1 u2) (by kernel_rfl) (by kernel_rfl) (fun _ _ _ => Ext.trans) ((Ext.refl _).drew) rfl (by show List.Nodup [125, 126, 127, 128, 129, 130, 131, 132, 133, 134, 135, 136, 137]; decide) (by show ∀ d ∈ [125, 126, 127, 128, 129, 130, 131, 132, 133, 134, 135, 136, 137], d < 153; decide) (bgsTab_mono q4 g cN v2 u0 u1 u2) ?_ ⟨?_, ?_, ?_, ?_, ?_, ?_, ?_, ?_, ?_, ?_, ?_, ?_, ?_, trivial⟩
                · intro W' vs hT' hRx
                  match vs, hT' with
                  | [v0', v1', v2', v3', v4', v5', v6', v7', v8', v9', v10', v11', v12'], ⟨e0, e1, e2, e3, e4, e5, e6, e7, e8, e9, e10, e11, e12, _⟩ =>
                    simp only [bgsTab, List.map_cons, List.map_nil, List.zip_cons_cons, List.zip_nil_left, putAll, List.setIfInBounds_toArray, List.set_cons_zero, List.set_cons_succ, List.drop_succ_cons, List.drop_zero]
                    simp only at e0 e1 e2 e3 e4 e5 e6 e7 e8 e9 e10 e11 e12
                    obtain ⟨qb, e12, hbox⟩ := e12
                    rw [e0, e1, e2, e3, e4, e5, e6, e7, e8, e9, e10, e11, e12]
                    clear e0 e1 e2 e3 e4 e5 e6 e7 e8 e9 e10 e11 e12 v0' v1' v2' v3' v4' v5' v6' v7' v8' v9' v10' v11' v12' hT'
                    have hq6 : W'.heap[q4]? = some (.cells #[v, v2] 25 (0, 0)) := by rw [RowKit.Below.block hRx q4 (Array.getElem?_eq_some_iff.1 hqW).1]; exact hqW
                    have hlt6 : q4 < W'.heap.size := (Array.getElem?_eq_some_iff.1 hq6).1
                    have hG6 := hG5.ext hRx
                    have hoW := ho5.out.ext hRx
                    have hoWlt := OwnR.lt hoW
                    refine wpList_append_S2 (w0 := w) rfl (.tmp 126) (.tmp 137) rfl v2 o2 rfl (ho25.out.ext hRx) (hE5.trans hRx) _ 1 1 [(((u0 : Int), (u1 : Int), (u2 : Int)) : Sp)] rfl rfl hbox.row (by simp only [List.length_cons, List.length_nil]; omega) ?_
                    intro v7 w7 o7 x7 g7 b7
                    obtain ⟨A7, c7, hv7⟩ := OwnS.form o7
                    rw [show (o2 ++ [(((u0 : Int), (u1 : Int), (u2 : Int)) : Sp)]).length = o2.length + 1 by simp] at hv7
                    subst hv7
                    have hq7 : w7.heap[q4]? = some (.cells #[v, v2] 25 (0, 0)) := by rw [g7.block q4 hlt6 (fun e => by have := hf2.out q4 e.symm; omega)]; exact hq6
                    obtain ⟨y0, y1, f0, f1⟩ := blk2 hq7
                    have hf7 := far.on hf2.out b7 hG6.size
                    have hr7 := hoW.kept g7 hdis
                    have hdis7 : v.ownBlock = none ∨ v.ownBlock ≠ (Value.slice A7 (o2.length + 1) c7).ownBlock := by
                      rcases hdis with h | h
                      · exact .inl h
                      · rcases b7 with b7 | b7
                        · exact .inr (by rw [b7]; exact h)
                        · rw [b7]
                          rcases hob : v.ownBlock with _ | g
                          · exact .inl rfl
                          · refine .inr fun he => ?_
                            injection he with he
                            have := (hoWlt g hob).2
                            omega
                    have hst7 : RX q4 w7 (w7.setCell ⟨q4, 1, none⟩ (.slice A7 (o2.length + 1) c7)) := RX.set (RX.refl q4 w7) 1 _ (.inr rfl)
                    have hrel7 : Gr2 w w4 B2 q4 l n m' D v o (Vi (q : Int)) (Vi ((j + 1 : Nat) : Int)) (w7.setCell ⟨q4, 1, none⟩ (.slice A7 (o2.length + 1) c7)) :=
                      ⟨j + 1, q, o2 ++ [(((u0 : Int), (u1 : Int), (u2 : Int)) : Sp)], _, rfl, rfl, by omega, hqn, by simp only [List.length_append, List.length_cons, List.length_nil]; omega, heap_setCell_same _ _ 1 _ _ _ hq7, Lib.hid (o7.kept hst7 (hf7.ne hq4B2)), Lib.hid hf7, Lib.hid (hr7.kept hst7 (hfB.ne hq4B)), hdis7, (hG6.on g7 (fun j e => .inl (hf2.out j e))).set _, hs2⟩
                    replace hrel7 := Lib.hid hrel7
                    clear hst7 hq7 hq6 ho5 ho25 hG5 hG6 hqW hf2 hbox hr7 hoW
                    go_wp2
                    go_roundw
                    case rel => exact hrel7.out
                    case measure => simp [intOf]; omega
                · refine softR_val 125 _ (by kernel_rfl) rfl rfl ?_
                  intro a W hx hout hdep
                  have ev4 : a.tmps[4]?.getD undef = .pointer (some ⟨q4, 0, none⟩) := by rw [← Array.getD_eq_getD_getElem?]; exact hout 4 (by show 4 ∉ [125, 126, 127, 128, 129, 130, 131, 132, 133, 134, 135, 136, 137]; decide)
                  refine ⟨rfl, .pointer (some ⟨q4, 1, none⟩), W, ?_, rfl, Ext.refl _⟩
                  simp [ev4, execOp, go_sem]
                · refine softR_val 126 _ (by kernel_rfl) rfl rfl ?_
                  intro a W hx hout hdep
                  have ev125 : a.tmps[125]?.getD undef = .pointer (some ⟨q4, 1, none⟩) := by rw [← Array.getD_eq_getD_getElem?]; exact (hdep ⟨0, .data⟩ (by simp) rfl 125 _ rfl).1
                  have q0 := hx.keep hcell
                  refine ⟨rfl, v2, W, ?_, rfl, Ext.refl _⟩
                  simp [ev125, q0, execOp, go_sem]
                · refine softR_val 127 _ (by kernel_rfl) rfl rfl ?_
                  intro a W hx hout hdep
                  have ev19 : a.tmps[19]?.getD undef = .slice (some ⟨g, 0, none⟩) 3 cN := by rw [← Array.getD_eq_getD_getElem?]; exact hout 19 (by show 19 ∉ [125, 126, 127, 128, 129, 130, 131, 132, 133, 134, 135, 136, 137]; decide)
                  refine ⟨rfl, .slice (some ⟨g, 0, none⟩) 3 cN, W, ?_, rfl, Ext.refl _⟩
                  simp [ev19, execOp, go_sem]
                · refine softR_val 128 _ (by kernel_rfl) rfl rfl ?_
                  intro a W hx hout hdep
                  have ev127 : a.tmps[127]?.getD undef = .slice (some ⟨g, 0, none⟩) 3 cN := by rw [← Array.getD_eq_getD_getElem?]; exact (hdep ⟨2, .data⟩ (by simp) rfl 127 _ rfl).1
                  refine ⟨rfl, .pointer (some ⟨g, 0, none⟩), W, ?_, rfl, Ext.refl _⟩
                  simp [ev127, execOp, go_sem]
                · refine softR_val 129 _ (by kernel_rfl) rfl rfl ?_
                  intro a W hx hout hdep
                  have ev128 : a.tmps[128]?.getD undef = .pointer (some ⟨g, 0, none⟩) := by rw [← Array.getD_eq_getD_getElem?]; exact (hdep ⟨3, .data⟩ (by simp) rfl 128 _ rfl).1
                  have q0 := hx.keep hn0
                  refine ⟨rfl, Vu u0, W, ?_, rfl, Ext.refl _⟩
                  simp [ev128, q0, execOp, go_sem]
                · refine softR_val 130 _ (by kernel_rfl) rfl rfl ?_
                  intro a W hx hout hdep
                  have ev19 : a.tmps[19]?.getD undef = .slice (some ⟨g, 0, none⟩) 3 cN := by rw [← Array.getD_eq_getD_getElem?]; exact hout 19 (by show 19 ∉ [125, 126, 127, 128, 129, 130, 131, 132, 133, 134, 135, 136, 137]; decide)
                  refine ⟨rfl, .slice (some ⟨g, 0, none⟩) 3 cN, W, ?_, rfl, Ext.refl _⟩
                  simp [ev19, execOp, go_sem]
                · refine softR_val 131 _ (by kernel_rfl) rfl rfl ?_
                  intro a W hx hout hdep
                  have ev130 : a.tmps[130]?.getD undef = .slice (some ⟨g, 0, none⟩) 3 cN := by rw [← Array.getD_eq_getD_getElem?]; exact (hdep ⟨5, .data⟩ (by simp) rfl 130 _ rfl).1
                  refine ⟨rfl, .pointer (some ⟨g, 1, none⟩), W, ?_, rfl, Ext.refl _⟩
                  simp [ev130, execOp, go_sem]
                · refine softR_val 132 _ (by kernel_rfl) rfl rfl ?_
                  intro a W hx hout hdep
                  have ev131 : a.tmps[131]?.getD undef = .pointer (some ⟨g, 1, none⟩) := by rw [← Array.getD_eq_getD_getElem?]; exact (hdep ⟨6, .data⟩ (by simp) rfl 131 _ rfl).1
                  have q0 := hx.keep hn1
                  refine ⟨rfl, Vu u1, W, ?_, rfl, Ext.refl _⟩
                  simp [ev131, q0, execOp, go_sem]
                · refine softR_val 133 _ (by kernel_rfl) rfl rfl ?_
                  intro a W hx hout hdep
                  have ev19 : a.tmps[19]?.getD undef = .slice (some ⟨g, 0, none⟩) 3 cN := by rw [← Array.getD_eq_getD_getElem?]; exact hout 19 (by show 19 ∉ [125, 126, 127, 128, 129, 130, 131, 132, 133, 134, 135, 136, 137]; decide)
                  refine ⟨rfl, .slice (some ⟨g, 0, none⟩) 3 cN, W, ?_, rfl, Ext.refl _⟩
                  simp [ev19, execOp, go_sem]
                · refine softR_val 134 _ (by kernel_rfl) rfl rfl ?_
                  intro a W hx hout hdep
                  have ev133 : a.tmps[133]?.getD undef = .slice (some ⟨g, 0, none⟩) 3 cN := by rw [← Array.getD_eq_getD_getElem?]; exact (hdep ⟨8, .data⟩ (by simp) rfl 133 _ rfl).1
                  refine ⟨rfl, .pointer (some ⟨g, 2, none⟩), W, ?_, rfl, Ext.refl _⟩
                  simp [ev133, execOp, go_sem]
                · refine softR_val 135 _ (by kernel_rfl) rfl rfl ?_
                  intro a W hx hout hdep
                  have ev134 : a.tmps[134]?.getD undef = .pointer (some ⟨g, 2, none⟩) := by rw [← Array.getD_eq_getD_getElem?]; exact (hdep ⟨9, .data⟩ (by simp) rfl 134 _ rfl).1
                  have q0 := hx.keep hn2
                  refine ⟨rfl, Vu u2, W, ?_, rfl, Ext.refl _⟩
                  simp [ev134, q0, execOp, go_sem]
                · refine softR_val 136 _ (by kernel_rfl) rfl rfl ?_
                  intro a W hx hout hdep
                  have ev129 : a.tmps[129]?.getD undef = Vu u0 := by rw [← Array.getD_eq_getD_getElem?]; exact (hdep ⟨4, .data⟩ (by simp) rfl 129 _ rfl).1
                  have ev132 : a.tmps[132]?.getD undef = Vu u1 := by rw [← Array.getD_eq_getD_getElem?]; exact (hdep ⟨7, .data⟩ (by simp) rfl 132 _ rfl).1
                  have ev135 : a.tmps[135]?.getD undef = Vu u2 := by rw [← Array.getD_eq_getD_getElem?]; exact (hdep ⟨10, .data⟩ (by simp) rfl 135 _ rfl).1
                  refine ⟨rfl, spv u0 u1 u2, W, ?_, rfl, Ext.refl _⟩
                  simp [ev129, ev132, ev135, execOp, go_sem]
                · refine softR_val 137 _ (by kernel_rfl) rfl rfl ?_
                  intro a W hx hout hdep
                  have ev136 : a.tmps[136]?.getD undef = spv u0 u1 u2 := by rw [← Array.getD_eq_getD_getElem?]; exact (hdep ⟨11, .data⟩ (by simp) rfl 136 _ rfl).1
                  refine ⟨rfl, .slice (some ⟨W.heap.size, 0, none⟩) 1 1, _, ?_, ⟨_, rfl, BoxS6.new W (u0, u1, u2)⟩, (Ext.refl W).alloc _⟩
                  simp [ev136, execOp, go_sem]
            · obtain rfl : j = m' := by omega
              have hs := hrel.out
              rw [Nat.sub_self] at hs
              simp only [spansAt, Option.map_some, List.append_nil] at hs
              have hpz : parse l = some (o, o2, p) := hpa.out _ _ hs.symm
              obtain ⟨hwr, hwd, hdl, hrl, hil⟩ := hfact.out o o2 p hpz
              have hGd := hans.out _ hpz
              simp only at hGd
              replace hGd := Lib.hid hGd
              obtain ⟨Ar, cr, hvr, _, hRr⟩ := OwnR.open ho.out
              obtain ⟨Ad, cd, hvd, hSd⟩ := SpS.own ho2.out
              subst hvr
              subst hvd
              obtain ⟨y0, y1, _, _⟩ := blk2 hq
              have hmay := Lib.hid (mayBatRef_any Ar o.length cr Ad o2.length cd o o2 wr hRr rfl hSd rfl hwr hwd hdl hrl (fun _ => hil))
              clear hs hrel hpa hans hfact hwr hwd
              go_wp2_with fail
              refine hmay.out.mono ?_
              rintro e w5 ⟨rfl, x5⟩
              have hno : ∀ (h : ¬ (p = n ∧ mayB o o2 = true)), G = none := fun h => by rw [hGd.out, if_neg h]
              have herr3 := herr2.out wr w5 hG x5
              have hq5 : w5.heap[q4]? = some (.cells #[.slice Ar o.length cr, .slice Ad o2.length cd] 25 (0, 0)) := by rw [RowKit.Below.block x5 q4 (Array.getElem?_eq_some_iff.1 hq).1]; exact hq
              have ho5 := ho.out.ext x5
              have ho25 := ho2.out.ext x5
              have hE5 := hE.trans x5
              replace ho5 := Lib.hid ho5
              replace ho25 := Lib.hid ho25
              replace hno := Lib.hid hno
              clear hmay y0 y1 hq ho ho2 hE hG
              by_cases hpe : p = n
              · subst hpe
                have hg5 : ((p : Int) != (p : Int)) = false := by simp
                cases hmb : mayB o o2 with
                | false =>
                  have hG0 := Lib.hid (hno.out (fun h => by rw [hmb] at h; cases h.2))
                  obtain ⟨hZ, hzz, hz⟩ := herr3
                  obtain ⟨z0, z1, f0, f1⟩ := blk2 hz
                  obtain ⟨u0, u1, _, _⟩ := blk2 hzz
                  replace hZ := Lib.hid hZ
                  clear hz hzz
                  go_wp2
                  rw [hG0.out]
                  exact bodyPost_ret (v := .tuple #[nilB, .bool false]) (by simp [results, Tryd.results11, go_sem, u0, u1]) rfl ⟨rfl, hZ.out⟩
                | true =>
                  have hG0 := Lib.hid (show G = some (o, o2) by rw [hGd.out, if_pos ⟨rfl, hmb⟩])
                  obtain ⟨_, _, hz⟩ := herr3
                  obtain ⟨z0, z1, f0, f1⟩ := blk2 hz
                  obtain ⟨y0, y1, _, _⟩ := blk2 hq5
                  have hzz := heap_setCell_same _ _ 1 _ _ (.slice Ad o2.length cd) (heap_setCell_same _ _ 0 _ _ (.slice Ar o.length cr) hz)
                  obtain ⟨u0, u1, _, _⟩ := blk2 (x := .slice Ar o.length cr) (y := .slice Ad o2.length cd) hzz
                  have nr := hfB.ne hq2B
                  have nd := hf2.out.ne hq2B2
                  have or4 := Lib.hid (((ho5.out).kept (RX.set (RX.refl q2 w5) 0 (.slice Ar o.length cr) (.inr rfl)) nr).kept (RX.set (RX.refl q2 _) 1 (.slice Ad o2.length cd) (.inr rfl)) nr)
                  have od4 := Lib.hid (((ho25.out).kept (RX.set (RX.refl q2 w5) 0 (.slice Ar o.length cr) (.inr rfl)) nd).kept (RX.set (RX.refl q2 _) 1 (.slice Ad o2.length cd) (.inr rfl)) nd)
                  have hZ := Lib.hid ((hE5.setCell (p := ⟨q2, 0, none⟩) (show w.heap.size ≤ q2 by omega) (.slice Ar o.length cr)).setCell (p := ⟨q2, 1, none⟩) (show w.heap.size ≤ q2 by omega) (.slice Ad o2.length cd))
                  clear hz hzz ho5 ho25 hq5 nr nd
                  go_wp2
                  rw [hG0.out]
                  exact bodyPost_ret (v := .tuple #[.agg #[.slice Ar o.length cr, .slice Ad o2.length cd], .bool true]) (by simp [results, Tryd.results11, go_sem, u0, u1]) rfl ⟨_, _, rfl, or4.out, od4.out, hZ.out⟩
              · have hG0 := Lib.hid (hno.out (fun h => hpe h.1))
                have hg5 : ((p : Int) != (n : Int)) = true := by simp; omega
                obtain ⟨hZ, hzz, hz⟩ := herr3
                obtain ⟨z0, z1, f0, f1⟩ := blk2 hz
                obtain ⟨u0, u1, _, _⟩ := blk2 hzz
                replace hZ := Lib.hid hZ
                clear hz hzz
                go_wp2
                rw [hG0.out]
                exact bodyPost_ret (v := .tuple #[nilB, .bool false]) (by simp [results, Tryd.results11, go_sem, u0, u1]) rfl ⟨rfl, hZ.out⟩
end

end Go.Proofs.YthpminlfbjedpaaDoor
