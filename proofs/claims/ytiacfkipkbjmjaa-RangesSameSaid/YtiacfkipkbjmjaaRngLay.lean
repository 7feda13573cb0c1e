/-
  Contracts of the reference's lay and SetOf; no claim stands here.
-/
import Derived.Test.YtiacfkipkbjmjaaRngMem
namespace Go.Proofs.Ytiacfkipkbjmjaa
open Go.ChangeShapes Go.WideShapes Go.ChangeAt Go.RowKit Go.Sort
set_option linter.unusedVariables false
attribute [local go_sem] World.cell?_alloc_some

/-- a row of blocks from b on -/
def OwnB (b : Nat) (W : World) (v : Value) (l : List (Int × Int × Int)) : Prop := W.ownsRow b 36 3 v l.length (flat encS l)
theorem OwnB.nil (b : Nat) (W : World) : OwnB b W (.slice none 0 0) [] := World.ownsRow_nil W _ _ _
theorem OwnB.lt {b : Nat} {W : World} {v : Value} {l : List (Int × Int × Int)} (h : OwnB b W v l) : ∀ k, v.ownBlock = some k → b ≤ k ∧ k < W.heap.size := World.ownsRow.lt h
theorem OwnB.own {b : Nat} {W : World} {v : Value} {l : List (Int × Int × Int)} (h : OwnB b W v l) : ∃ A c, v = .slice A l.length c ∧ SpS W A l ∧ l.length ≤ c := by
  have h' := h
  rcases h'.2 with ⟨rfl, h0⟩ | ⟨g, cap, cur, rfl, _, _, hc, _⟩
  · have e : l = [] := List.eq_nil_of_length_eq_zero h0
    subst e
    exact ⟨none, 0, rfl, SpS.nil _ _, Nat.le_refl _⟩
  · exact ⟨_, _, rfl, Row.own h, hc⟩
/-- two rows lie in two blocks -/
def Aside2 (v u : Value) : Prop := ∀ g, v.ownBlock = some g → u.ownBlock ≠ some g
theorem Aside2.symm {v u : Value} (h : Aside2 v u) : Aside2 u v := fun g h1 h2 => h g h2 h1
theorem Aside2.not {v u : Value} (h : Aside2 v u) : u.ownBlock = none ∨ u.ownBlock ≠ v.ownBlock := by
  cases hu : u.ownBlock with
  | none => exact .inl rfl
  | some g =>
    refine .inr fun e => ?_
    exact h g e.symm hu

theorem run_append_B {w : World} (b : Nat) (ty : TypeId) (v : Value) (l : List (Int × Int × Int)) (hown : OwnB b w v l) (hb0 : b ≤ w.heap.size) (A : Option Addr) (m c : Nat) (r : List (Int × Int × Int)) (hm : r.length = m) (hr : SpS w A r) (hb : l.length + r.length ≤ 3000) :
    ∃ v' w', (Builtin.append_ #[22, 22] ty #[v, .slice A m c]).run Try.prog w = .ok v' w' ∧ OwnB b w' v' (l ++ r) ∧ w.grownBy w' v.ownBlock ∧ (v'.ownBlock = v.ownBlock ∨ v'.ownBlock = some w.heap.size) := by
  obtain ⟨i, hi, hz0, hz1, hz2⟩ := info_parts infoS
  subst hm
  cases A with
  | none =>
    have h0 : r = [] := by
      cases r with
      | nil => rfl
      | cons p r =>
        obtain ⟨b', o', e, _⟩ := hr (by rw [flat_len encS_len]; simp)
        cases e
    subst h0
    refine ⟨v, w, ?_, by rw [List.append_nil]; exact hown, ⟨rfl, rfl, rfl, Nat.le_refl _, fun _ _ _ => rfl⟩, .inl rfl⟩
    rcases hown.2 with ⟨rfl, _⟩ | ⟨g, cap, cur, rfl, _, _, hnc, _⟩
    · simp [Builtin.append_, run_underlying Try.underlying22, sizeOf, typeInfo, hi, Builtin.lenOf, Builtin.firstCells]
    · simp [Builtin.append_, run_underlying Try.underlying22, sizeOf, typeInfo, hi, Builtin.lenOf, Builtin.firstCells, hnc, storeCells]
  | some ad =>
    obtain ⟨v', w', hrun, h2, h3, _, h5⟩ := run_append_own_at (P := Try.prog) w b 22 ty 36 i _ 3 12 Try.underlying22 hi hz0 hz1 hz2 rfl (by omega) v l.length _ hown ad r.length c (flat encS r) (flat_len encS_len r) (fun j u hu => by
      obtain ⟨b', o', e, hc⟩ := hr (by
        rcases Nat.eq_zero_or_pos (flat encS r).length with h | h
        · rw [List.getElem?_eq_none (by omega)] at hu; cases hu
        · exact h)
      injection e with e
      subst e
      rw [add_at]
      exact hc j u hu) (flat_one_cell encS_one r) (by unfold maxLen; omega) (by omega) hb0
    refine ⟨v', w', hrun, ?_, h3, h5⟩
    unfold OwnB
    rw [flat_append, List.length_append]
    exact h2
theorem wpList_append_B {w : World} {ops : Array Oper} {rest : List Oper} {o : Oper} {a : Act} {Q : Exit → Act → World → Prop} (hgd : o.guard = none) (s x : Operand)
    (ho : o.op = .call { callee := .builtin .append, args := #[s, x], argTypes := #[22, 22] }) (b : Nat)
    (v : Value) (l : List (Int × Int × Int)) (hs : a.eval s = v) (hown : OwnB b w v l) (hb0 : b ≤ w.heap.size)
    (A : Option Addr) (m c : Nat) (r : List (Int × Int × Int)) (he : a.eval x = .slice A m c) (hm : r.length = m) (hr : SpS w A r) (hb : l.length + r.length ≤ 3000)
    (h : ∀ v' w', OwnB b w' v' (l ++ r) → w.grownBy w' v.ownBlock → (v'.ownBlock = v.ownBlock ∨ v'.ownBlock = some w.heap.size) → wpList Try.prog ops Q rest (a.put o.dst v') w') : wpList Try.prog ops Q (o :: rest) a w := by
  refine wpList_plain hgd fun K hK => ?_
  obtain ⟨v', w', hrun, h2, h3, h4⟩ := run_append_B b o.type v l hown hb0 A m c r hm hr hb
  unfold Oper.wp execOp
  simp only [ho, resolve, invoke, builtin, Sem.run_bind, Sem.run_pure, Result.andThen_ok, List.map_toArray, List.map_cons, List.map_nil, hs, he, hrun]
  exact hK _ _ (h v' w' h2 h3 h4)

/-- a span in a block of its own -/
def BoxS (W : World) (g : Nat) (x y z : Int) : Prop := W.heap[g]? = some (.cells #[Vu x, Vu y, Vu z] 36 (0, 0))
theorem BoxS.grown {W W' : World} {g : Nat} {x y z : Int} {row : Option Nat} (h : BoxS W g x y z) (hg : W.grownBy W' row) (hn : some g ≠ row) : BoxS W' g x y z := by
  unfold BoxS at h ⊢
  rw [hg.block g (Array.getElem?_eq_some_iff.1 h).1 hn]; exact h
theorem BoxS.ext {W W' : World} {g : Nat} {x y z : Int} (h : BoxS W g x y z) (hx : Ext W W') : BoxS W' g x y z := by
  unfold BoxS at h ⊢
  rw [RowKit.Below.block hx g (Array.getElem?_eq_some_iff.1 h).1]; exact h
theorem BoxS.new (W : World) (x y z : Int) : BoxS (W.alloc (.cells #[.int .u32 x, .int .u32 y, .int .u32 z] 36)) W.heap.size x y z := heap_alloc_new W _
theorem BoxS.cells {W : World} {g : Nat} {x y z : Int} (h : BoxS W g x y z) : W.cell? ⟨g, 0, none⟩ = some (Vu x) ∧ W.cell? ⟨g, 1, none⟩ = some (Vu y) ∧ W.cell? ⟨g, 2, none⟩ = some (Vu z) ∧ W.frozen? ⟨g, 1, none⟩ = false ∧ W.frozen? ⟨g, 2, none⟩ = false :=
  ⟨by rw [cell_of_row W g 0 _ _ _ h]; rfl, by rw [cell_of_row W g 1 _ _ _ h]; rfl, by rw [cell_of_row W g 2 _ _ _ h]; rfl, frozen_of_row W g 1 _ _ h, frozen_of_row W g 2 _ _ h⟩
theorem BoxS.set1 {W : World} {g : Nat} {x y z : Int} (h : BoxS W g x y z) (u : Int) : BoxS (W.setCell ⟨g, 1, none⟩ (Vu u)) g x u z := heap_setCell_same W g 1 _ _ _ h
theorem BoxS.set2 {W : World} {g : Nat} {x y z : Int} (h : BoxS W g x y z) (u : Int) : BoxS (W.setCell ⟨g, 2, none⟩ (Vu u)) g x y u := heap_setCell_same W g 2 _ _ _ h

/-- what is laid ahead, what behind, and what is still to come make the set -/
def LayEq (la lb rest : List (Int × Int × Int)) (s : Int × Int × Int) (L : List (Int × Int × Int)) : Prop :=
  s.2.1 < s.2.2 ∧ ((lb = [] ∧ la ++ layOf rest s = L) ∨ (la ++ s :: (lb ++ rest) = L ∧ ∀ q ∈ rest, apartB q s = false ∧ apartB s q = true))
theorem LayEq.ahead {la lb rest L : List (Int × Int × Int)} {s q : Int × Int × Int} (h : LayEq la lb (q :: rest) s L) (hq : apartB q s = true) : LayEq (la ++ [q]) lb rest s L := by
  refine ⟨h.1, ?_⟩
  rcases h.2 with ⟨h1, h2⟩ | ⟨_, h2⟩
  · rw [layOf, if_pos hq] at h2
    exact .inl ⟨h1, by rw [← h2]; simp⟩
  · rw [(h2 q (List.mem_cons_self ..)).1] at hq; cases hq
theorem LayEq.behind {la lb rest L : List (Int × Int × Int)} {s q : Int × Int × Int} (h : LayEq la lb (q :: rest) s L) (hq : apartB q s = false) (hs : apartB s q = true) (hm : maySp q rest = true) (hg : q.2.1 < q.2.2) : LayEq la (lb ++ [q]) rest s L := by
  refine ⟨h.1, .inr ?_⟩
  have h0 := h.1
  rcases h.2 with ⟨h1, h2⟩ | ⟨h1, h2⟩
  · rw [layOf, if_neg (by simp [hq]), if_pos hs] at h2
    refine ⟨by rw [← h2, h1]; simp, fun p hp => ?_⟩
    have := may_all hm p hp
    rw [apart_iff] at hs ⊢
    rw [apart_not]
    omega
  · exact ⟨by rw [← h1]; simp, fun p hp => h2 p (List.mem_cons_of_mem _ hp)⟩
theorem LayEq.merge {la lb rest L : List (Int × Int × Int)} {s q : Int × Int × Int} (h : LayEq la lb (q :: rest) s L) (hq : apartB q s = false) (hs : apartB s q = false) (hg : q.2.1 < q.2.2) : LayEq la lb rest (mergeS s q) L := by
  have h0 := h.1
  refine ⟨by simp only [mergeS]; omega, ?_⟩
  rcases h.2 with ⟨h1, h2⟩ | ⟨_, h2⟩
  · rw [layOf, if_neg (by simp [hq]), if_neg (by simp [hs])] at h2
    exact .inl ⟨h1, h2⟩
  · rw [(h2 q (List.mem_cons_self ..)).2] at hs; cases hs
theorem LayEq.done {la lb L : List (Int × Int × Int)} {s : Int × Int × Int} (h : LayEq la lb [] s L) : la ++ [s] ++ lb = L := by
  rcases h.2 with ⟨h1, h2⟩ | ⟨h1, _⟩
  · rw [layOf] at h2; rw [h1, ← h2]; simp
  · rw [← h1]; simp

/-- what the loop of lay keeps -/
def LayRel (w : World) (pb b n : Nat) (l L : List (Int × Int × Int)) (s5 s6 s7 : Value) (W : World) : Prop :=
  ∃ (k : Nat) (la lb : List (Int × Int × Int)) (x y z : Int), k ≤ n ∧ s7 = .int .i64 k ∧ Hid (OwnB b W s5 la) ∧ Hid (OwnB b W s6 lb) ∧ Hid (Aside2 s5 s6) ∧ Hid (BoxS W pb x y z) ∧ Ext w W ∧ b ≤ W.heap.size ∧ la.length + lb.length ≤ k ∧ Hid (LayEq la lb (l.drop k) (x, y, z) L)

theorem OwnB.ext {b : Nat} {W W' : World} {v : Value} {l : List (Int × Int × Int)} (h : OwnB b W v l) (hx : Ext W W') : OwnB b W' v l := by
  unfold OwnB at h ⊢
  rcases h with ⟨h1, h2 | ⟨g, cap, cur, h2, h3, h4, h5⟩⟩
  · exact ⟨h1, .inl h2⟩
  · refine ⟨h1, .inr ⟨g, cap, cur, h2, h3, ?_, h5⟩⟩
    rw [RowKit.Below.block hx g (Array.getElem?_eq_some_iff.1 h4).1]; exact h4
theorem lay_put {w W W' : World} {b pb : Nat} {u5 u6 v5 : Value} {la lb : List (Int × Int × Int)} {x y z : Int} (hx : Ext w W) (oa : OwnB b W u5 la) (ob : OwnB b W u6 lb) (hab : Aside2 u5 u6) (bx : BoxS W pb x y z) (hpb : pb < b) (hwb : w.heap.size ≤ b) (hbw : b ≤ W.heap.size)
    (g : W.grownBy W' u5.ownBlock) (h5 : v5.ownBlock = u5.ownBlock ∨ v5.ownBlock = some W.heap.size) : OwnB b W' u6 lb ∧ Aside2 v5 u6 ∧ BoxS W' pb x y z ∧ Ext w W' ∧ b ≤ W'.heap.size := by
  refine ⟨World.ownsRow.kept ob g hab.not, ?_, bx.grown g ?_, ?_, ?_⟩
  · intro k hk hu
    rcases h5 with e | e
    · exact hab k (by rw [← e]; exact hk) hu
    · rw [e] at hk
      injection hk with hk
      have := (ob.lt k hu).2
      omega
  · intro e
    have := (oa.lt pb e.symm).1
    omega
  · exact hx.grown g fun k hk => Nat.le_trans hwb (oa.lt k hk).1
  · exact Nat.le_trans hbw g.size

theorem SpS.new2 (w : World) (o : Obj) (x y z : Int) : SpS ((w.alloc o).alloc (.cells #[.int .u32 x, .int .u32 y, .int .u32 z] 36)) (some ⟨w.heap.size + 1, 0, none⟩) [(x, y, z)] := by
  have h := SpS.new (w.alloc o) x y z
  rwa [show (w.alloc o).heap.size = w.heap.size + 1 by simp] at h
theorem drop_at {l : List (Int × Int × Int)} {k : Nat} {p : Int × Int × Int} (h : l[k]? = some p) : l.drop k = p :: l.drop (k + 1) := by
  obtain ⟨hk, e⟩ := List.getElem?_eq_some_iff.1 h
  rw [List.drop_eq_getElem_cons hk, e]

set_option maxHeartbeats 4000000 in
theorem lay_any (A : Option Addr) (n cap : Nat) (l : List (Int × Int × Int)) (x y z : Int) (w : World) (hv : SpS w A l) (hn : l.length = n) (hm : maySp zS l = true) (hyz : y < z) (hb : n ≤ 1000) :
    Calls Try.prog 16 #[.slice A n cap, spv x y z] w (RetS w (layOf l (x, y, z))) := by
  obtain ⟨L, hL⟩ : ∃ L, layOf l (x, y, z) = L := ⟨_, rfl⟩
  rw [hL]
  replace hL := Lib.hid hL
  replace hn := Lib.hid hn
  replace hv := Lib.hid hv
  replace hm := Lib.hid hm
  go_enter Try.func16, Try.ntmps16
  go_wp2
  have x0 : Ext w (w.alloc (Obj.cells #[Value.int IntKind.u32 x, Value.int IntKind.u32 y, Value.int IntKind.u32 z] 36)) := (Ext.refl _).alloc _
  have b0 := Lib.hid (BoxS.new w x y z)
  have hpb : w.heap.size < (w.alloc (Obj.cells #[Value.int IntKind.u32 x, Value.int IntKind.u32 y, Value.int IntKind.u32 z] 36)).heap.size := by simp
  generalize w.alloc (Obj.cells #[Value.int IntKind.u32 x, Value.int IntKind.u32 y, Value.int IntKind.u32 z] 36) = W0 at *
  obtain ⟨b, hbd⟩ : ∃ b, W0.heap.size = b := ⟨_, rfl⟩
  rw [hbd] at hpb
  obtain ⟨pb, hpbd⟩ : ∃ pb, w.heap.size = pb := ⟨_, rfl⟩
  rw [hpbd] at hpb b0 ⊢
  have hwb : w.heap.size ≤ b := by omega
  replace hbd := Lib.hid hbd
  replace hpbd := Lib.hid hpbd
  go_loopw [5, 6, 7] (LayRel w pb b n l L) (fun _ _ i _ => n - (intOf i).toNat)
  case atStart => exact ⟨0, [], [], x, y, z, Nat.zero_le _, rfl, Lib.hid (OwnB.nil _ _), Lib.hid (OwnB.nil _ _), Lib.hid (fun g h => by simp [Value.ownBlock] at h), b0, x0, by rw [hbd.out]; exact Nat.le_refl _, Nat.le_refl _, Lib.hid ⟨hyz, .inl ⟨rfl, by simpa using hL.out⟩⟩⟩
  case round =>
    clear b0 x0
    obtain ⟨k, la, lb, x, y, z, hk, rfl, oa, ob, hab, bx, hx, hbw, hlen, hrel⟩ := hrel
    by_cases hlt : k < n
    · obtain ⟨bb, oo, x', y', z', rfl, hp, d0, d1, d2⟩ := hv.out.at (k := k) (by rw [hn.out]; exact hlt)
      have c0 := hx.keep d0
      have c1 := hx.keep d1
      have c2 := hx.keep d2
      have hmk := may_drop_at hm.out hp
      have hr := hrel.out
      rw [drop_at hp] at hr
      clear hp hrel d0 d1 d2
      obtain ⟨e0, e1, e2, f1, f2⟩ := bx.out.cells
      by_cases t1 : x' < x
      · have g1 : decide (x' < x) = true := by simpa using t1
        have hd := Lib.hid (hr.ahead (apart_iff.2 (.inl t1)))
        clear hr
        go_wp2_with (first
          | (at_builtin
             refine wpList_append_B rfl (.tmp 38) (.tmp 40) rfl b _ la rfl (oa.out.ext (((Ext.refl _).alloc _).alloc _)) (by simp; omega) _ 1 1 [(x', y', z')] rfl rfl (SpS.new2 _ _ x' y' z') (by simp; omega) ?_
             intro v2 w2 o2 g2 h2
             obtain ⟨p1, p2, p3, p4, p5⟩ := lay_put ((hx.alloc _).alloc _) (oa.out.ext (((Ext.refl _).alloc _).alloc _)) (ob.out.ext (((Ext.refl _).alloc _).alloc _)) hab.out (bx.out.ext (((Ext.refl _).alloc _).alloc _)) hpb hwb (by simp; omega) g2 h2))
        go_roundw
        case rel => exact ⟨k + 1, la ++ [(x', y', z')], lb, _, _, _, by omega, by go_num, Lib.hid o2, Lib.hid p1, Lib.hid p2, Lib.hid p3, p4, p5, by simp only [List.length_append, List.length_cons, List.length_nil]; omega, hd⟩
        case measure => simp [intOf]; omega
      · have g1 : decide (x' < x) = false := by simpa using t1
        by_cases t2 : x' = x
        · subst t2
          by_cases t3 : z' < y
          · have g3 : decide (z' < y) = true := by simpa using t3
            have hd := Lib.hid (hr.ahead (apart_iff.2 (.inr ⟨rfl, t3⟩)))
            clear hr t1
            go_wp2_with (first
              | (at_builtin
                 refine wpList_append_B rfl (.tmp 38) (.tmp 40) rfl b _ la rfl (oa.out.ext (((Ext.refl _).alloc _).alloc _)) (by simp; omega) _ 1 1 [(x', y', z')] rfl rfl (SpS.new2 _ _ x' y' z') (by simp; omega) ?_
                 intro v2 w2 o2 g2 h2
                 obtain ⟨p1, p2, p3, p4, p5⟩ := lay_put ((hx.alloc _).alloc _) (oa.out.ext (((Ext.refl _).alloc _).alloc _)) (ob.out.ext (((Ext.refl _).alloc _).alloc _)) hab.out (bx.out.ext (((Ext.refl _).alloc _).alloc _)) hpb hwb (by simp; omega) g2 h2))
            go_roundw
            case rel => exact ⟨k + 1, la ++ [(x', y', z')], lb, _, _, _, by omega, by go_num, Lib.hid o2, Lib.hid p1, Lib.hid p2, Lib.hid p3, p4, p5, by simp only [List.length_append, List.length_cons, List.length_nil]; omega, hd⟩
            case measure => simp [intOf]; omega
          · have g3 : decide (z' < y) = false := by simpa using t3
            have t1' : decide (x' < x') = false := by simp
            by_cases t4 : z < y'
            · have g4 : decide (z < y') = true := by simpa using t4
              have hd := Lib.hid (hr.behind (apart_not.2 (by simp only; omega)) (apart_iff.2 (.inr ⟨rfl, t4⟩)) hmk.1 hmk.2)
              clear hr t1 t3
              go_wp2_with (first
                | (at_builtin
                   refine wpList_append_B rfl (.tmp 54) (.tmp 56) rfl b _ lb rfl (ob.out.ext (((Ext.refl _).alloc _).alloc _)) (by simp; omega) _ 1 1 [(x', y', z')] rfl rfl (SpS.new2 _ _ x' y' z') (by simp; omega) ?_
                   intro v2 w2 o2 g2 h2
                   obtain ⟨p1, p2, p3, p4, p5⟩ := lay_put ((hx.alloc _).alloc _) (ob.out.ext (((Ext.refl _).alloc _).alloc _)) (oa.out.ext (((Ext.refl _).alloc _).alloc _)) hab.out.symm (bx.out.ext (((Ext.refl _).alloc _).alloc _)) hpb hwb (by simp; omega) g2 h2))
              go_roundw
              case rel => exact ⟨k + 1, la, lb ++ [(x', y', z')], _, _, _, by omega, by go_num, Lib.hid p1, Lib.hid o2, Lib.hid p2.symm, Lib.hid p3, p4, p5, by simp only [List.length_append, List.length_cons, List.length_nil]; omega, hd⟩
              case measure => simp [intOf]; omega
            · have g4 : decide (z < y') = false := by simpa using t4
              have hd := Lib.hid (hr.merge (apart_not.2 (by simp only; omega)) (apart_not.2 (by simp only; omega)) hmk.2)
              clear hr t1 t3 t4
              have hpw : w.heap.size ≤ pb := by rw [hpbd.out]; exact Nat.le_refl _
              have hpl := World.block_lt_of_cell? wr _ e0
              have em : mergeS (x', y, z) (x', y', z') = (x', (if y' < y then y' else y), (if z < z' then z' else z)) := by
                simp only [mergeS]
                rw [Prod.mk.injEq, Prod.mk.injEq]
                refine ⟨rfl, ?_, ?_⟩ <;> split <;> omega
              rw [em] at hd
              clear em
              go_wp2
              go_roundw
              case rel => exact ⟨k + 1, la, lb, _, _, _, by omega, by go_num, Lib.hid (OwnB.ext (ownsRow_setCell_below (ownsRow_setCell_below oa.out hpb _) hpb _) ((Ext.refl _).alloc _)), Lib.hid (OwnB.ext (ownsRow_setCell_below (ownsRow_setCell_below ob.out hpb _) hpb _) ((Ext.refl _).alloc _)), hab, Lib.hid (((bx.out.set1 _).set2 _).ext ((Ext.refl _).alloc _)), ((hx.setCell hpw _).setCell hpw _).alloc _, by simp; omega, by omega, hd⟩
              case measure => simp [intOf]; omega
        · have g2 : (x' == x) = false := by simpa using t2
          have g3 : decide (x < x') = true := by rw [decide_eq_true_eq]; omega
          have hd := Lib.hid (hr.behind (apart_not.2 (by simp only; omega)) (apart_iff.2 (.inl (by simp only; omega))) hmk.1 hmk.2)
          clear hr t1 t2
          go_wp2_with (first
            | (at_builtin
               refine wpList_append_B rfl (.tmp 54) (.tmp 56) rfl b _ lb rfl (ob.out.ext (((Ext.refl _).alloc _).alloc _)) (by simp; omega) _ 1 1 [(x', y', z')] rfl rfl (SpS.new2 _ _ x' y' z') (by simp; omega) ?_
               intro v2 w2 o2 g2 h2
               obtain ⟨p1, p2, p3, p4, p5⟩ := lay_put ((hx.alloc _).alloc _) (ob.out.ext (((Ext.refl _).alloc _).alloc _)) (oa.out.ext (((Ext.refl _).alloc _).alloc _)) hab.out.symm (bx.out.ext (((Ext.refl _).alloc _).alloc _)) hpb hwb (by simp; omega) g2 h2))
          go_roundw
          case rel => exact ⟨k + 1, la, lb ++ [(x', y', z')], _, _, _, by omega, by go_num, Lib.hid p1, Lib.hid o2, Lib.hid p2.symm, Lib.hid p3, p4, p5, by simp only [List.length_append, List.length_cons, List.length_nil]; omega, hd⟩
          case measure => simp [intOf]; omega
    · have hz := Lib.hid (show la ++ [(x, y, z)] ++ lb = L by
        have h := hrel.out
        rw [List.drop_eq_nil_of_le (by rw [hn.out]; omega)] at h
        exact h.done)
      clear hrel
      obtain ⟨e0, e1, e2, f1, f2⟩ := bx.out.cells
      obtain ⟨B6, c6, e6, s6, _⟩ := ob.out.own
      subst e6
      replace s6 := Lib.hid s6
      go_wp2_with (first
        | (at_builtin
           refine wpList_append_B rfl (.tmp 70) (.tmp 72) rfl b _ la rfl (oa.out.ext ((Ext.refl _).alloc _)) (by simp; omega) _ 1 1 [(x, y, z)] rfl rfl (SpS.new _ x y z) (by simp; omega) ?_
           intro v2 w2 o2 g2 h2
           obtain ⟨p1, p2, p3, p4, p5⟩ := lay_put (hx.alloc _) (oa.out.ext ((Ext.refl _).alloc _)) (ob.out.ext ((Ext.refl _).alloc _)) hab.out (bx.out.ext ((Ext.refl _).alloc _)) hpb hwb (by simp; omega) g2 h2
           clear e0 e1 e2 f1 f2)
        | (at_builtin
           refine wpList_append_B rfl (.tmp 73) (.tmp 74) rfl b _ (la ++ [(x, y, z)]) rfl o2 p5 B6 lb.length c6 lb rfl rfl (by obtain ⟨B7, c7, e7, s7, _⟩ := p1.own; injection e7 with e8; subst e8; exact s7) (by simp; omega) ?_
           intro v3 w3 o3 g3 h3))
      go_ret
      rw [hz.out] at o3
      obtain ⟨A4, c4, e4, h4, h5⟩ := o3.own
      subst e4
      exact ⟨A4, _, c4, rfl, rfl, h5, h4, p4.grown g3 fun k hk => Nat.le_trans hwb (o2.lt k hk).1⟩

end Go.Proofs.Ytiacfkipkbjmjaa
