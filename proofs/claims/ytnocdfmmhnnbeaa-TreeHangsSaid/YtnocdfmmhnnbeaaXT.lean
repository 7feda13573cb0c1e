/-
  Several texts of this seat in one file, each in the namespace again; no claim stands here.
-/
import Derived.Room.AppendUpon
import Derived.Deep.DeepCutAuto
import Derived.IntWalk
import Derived.Test.YtnocdfmmhnnbeaaXO
import Derived.Test.YtnocdfmmhnnbeaaXS
import Derived.Test.YtnocdfmmhnnbeaaXN
import Derived.Test.YtnocdfmmhnnbeaaXP
namespace Go.Proofs.Ytnocdfmmhnnbeaa
open Go.ChangeShapes Go.WideShapes Go.ChangeAt Go.RowKit Go.Sort
set_option linter.unusedVariables false
set_option linter.unusedSimpArgs false
attribute [local go_sem] World.cell?_alloc_some

theorem wpList_append_IB {w0 w : World} {ops : Array Oper} {rest : List Oper} {o : Oper} {a : Act} {Q : Exit → Act → World → Prop} (hgd : o.guard = none) (s x : Operand)
    (ho : o.op = .call { callee := .builtin .append, args := #[s, x], argTypes := #[22, 22] })
    (v : Value) (l : List It) (hs : a.eval s = v) (hown : OwnI w0 w v l) (hx : Ext w0 w)
    (A : Option Addr) (m c : Nat) (r : List It) (he : a.eval x = .slice A m c) (hm : r.length = m) (hr : ItS w A r) (hb : l.length + r.length ≤ 5026338869833)
    (h : ∀ v' w', OwnI w0 w' v' (l ++ r) → Ext w0 w' → w.grownBy w' v.ownBlock → (v'.ownBlock = v.ownBlock ∨ v'.ownBlock = some w.heap.size) → wpList Try.prog ops Q rest (a.put o.dst v') w') : wpList Try.prog ops Q (o :: rest) a w := by
  refine wpList_plain hgd fun K hK => ?_
  obtain ⟨i, hi, hz0, hz1, hz2⟩ := info_parts infoI
  subst hm
  obtain ⟨v', w', hrun, h2, h3, h4⟩ := run_append_rowB (P := Try.prog) w w0.heap.size 22 o.type 27 i _ 7 28 Try.underlying22 hi hz0 hz1 hz2 rfl (by omega) v l.length _ hown A r.length c _ (flat_len encI_len r) hr (flat_one_cell encI_one r)
    (by unfold maxLen; omega) (by omega) hx.size
  unfold Oper.wp execOp
  simp only [ho, resolve, invoke, builtin, Sem.run_bind, Sem.run_pure, Result.andThen_ok, List.map_toArray, List.map_cons, List.map_nil, hs, he, hrun]
  refine hK _ _ (h v' w' ?_ (hx.grown h3 (OwnG.lt hown)) h3 h4)
  unfold OwnI OwnG
  rw [flat_append, List.length_append]
  exact h2
/-- append to an empty slice of no room, wherever it points -/
theorem appendI_base {P : Program} (w : World) (t ty e : TypeId) (i : TypeInfo) (ht : P.underlying t = some (.slice e)) (hi : P.info? e = some i) (base : Option Addr) (A : Option Addr) (m c : Nat) (hm : 0 < m)
    (hfit : Builtin.nextslicecap m 0 * i.bytes ≤ 281474976710656) (h63 : (m : Int) ≤ 9223372036854775807) :
    (Builtin.append_ #[t, t] ty #[.slice base 0 0, .slice A m c]).run P w = (Builtin.append_ #[t, t] ty #[.slice none 0 0, .slice A m c]).run P w := by
  have h48' : ¬ (281474976710656 < Builtin.nextslicecap m 0 * i.bytes) := by omega
  have h63' : ¬ (9223372036854775807 < (m : Int)) := by omega
  have hm0 : ¬ (m ≤ 0) := by omega
  have hm1 : ¬ (m = 0) := by omega
  cases base with
  | none => rfl
  | some a =>
    simp [Builtin.append_, run_underlying ht, sizeOf, typeInfo, hi, Builtin.lenOf, hm1, h48', h63', Builtin.firstCells, loadCells, loadCellsFrom]
theorem run_append_I0 (w0 w : World) (ty : TypeId) (q : Nat) (l : List It) (A : Option Addr) (m c : Nat) (hm : l.length = m) (hr : ItS w A l) (hx : Ext w0 w) (hb : m ≤ 5026338869833) (hq : w0.heap.size ≤ q) (hqc : w.heap[q]? = some (.cells #[] 27 (0, 0))) :
    ∃ v' w', (Builtin.append_ #[22, 22] ty #[.slice (some ⟨q, 0, none⟩) 0 0, .slice A m c]).run Try.prog w = .ok v' w' ∧ OwnI w0 w' v' l ∧ Ext w w' := by
  obtain ⟨i, hi, hz0, hz1, hz2⟩ := info_parts infoI
  subst hm
  obtain ⟨v', w', hrun, h2, h3, h4⟩ := run_append_rowB (P := Try.prog) w w0.heap.size 22 ty 27 i _ 7 28 Try.underlying22 hi hz0 hz1 hz2 rfl (by omega) (.slice none 0 0) 0 [] (World.ownsRow_nil w _ _ _) A l.length c _ (flat_len encI_len l) hr (flat_one_cell encI_one l)
    (by unfold maxLen; omega) (by omega) hx.size
  rcases Nat.eq_zero_or_pos l.length with h0 | h0
  · obtain rfl : l = [] := List.eq_nil_of_length_eq_zero h0
    refine ⟨.slice (some ⟨q, 0, none⟩) 0 0, w, ?_, ⟨by simp [flat], .inr ⟨q, 0, #[], rfl, hq, hqc, Nat.le_refl _, by unfold maxLen; omega, by simp, by simp [flat]⟩⟩, Ext.refl _⟩
    cases A <;> simp [Builtin.append_, run_underlying Try.underlying22, sizeOf, typeInfo, hi, Builtin.lenOf, Builtin.firstCells, storeCells, loadCells, loadCellsFrom]
  · refine ⟨v', w', ?_, ?_, ?_⟩
    · rw [appendI_base w _ _ _ i Try.underlying22 hi _ A l.length c h0 ?_ (by omega)]
      · exact hrun
      · rw [hz2]
        have : Builtin.nextslicecap l.length 0 ≤ l.length := by
          unfold Builtin.nextslicecap
          rw [if_pos (by omega)]
          omega
        omega
    · unfold OwnI OwnG
      have := h2
      rw [Nat.zero_add, List.nil_append] at this
      exact this
    · exact Ext.grown (Ext.refl w) (v := .slice none 0 0) h3 (fun k hk => by cases hk)
theorem ItS.box {W : World} {q : Nat} {x : It} (h : BoxI W q x) : ItS W (some ⟨q, 0, none⟩) [x] := fun _ => ⟨_, _, rfl, fun j u hu => by rw [← add_at]; exact World.news_of_block h j u hu⟩

/-- one more, if it may stand there -/
def stepK (out : List It) (x : It) : List It := if knownI (out ++ [x]) && okB x.ch then out ++ [x] else out
/-- items as known ones -/
def knL (l : List It) : List It := l.foldl stepK []
theorem knL_take {l : List It} {j : Nat} {x : It} (h : l[j]? = some x) : knL (l.take (j + 1)) = if knownI (knL (l.take j) ++ [x]) && okB x.ch then knL (l.take j) ++ [x] else knL (l.take j) := by
  rw [take_get h]
  unfold knL
  rw [List.foldl_append]
  rfl
theorem knL_len (l : List It) : (knL l).length ≤ l.length := by
  refine snoc_ind (P := fun l => (knL l).length ≤ l.length) (Nat.le_refl _) (fun l x ih => ?_) l
  have : knL (l ++ [x]) = stepK (knL l) x := by unfold knL; rw [List.foldl_append]; rfl
  rw [this]
  unfold stepK
  rw [List.length_append]
  split
  · rw [List.length_append]; simp; omega
  · simp; omega
theorem knL_known (l : List It) : knownI (knL l) = true := by
  refine snoc_ind (P := fun l => knownI (knL l) = true) rfl (fun l x ih => ?_) l
  have : knL (l ++ [x]) = stepK (knL l) x := by unfold knL; rw [List.foldl_append]; rfl
  rw [this]
  unfold stepK
  split
  · rename_i h
    rw [Bool.and_eq_true] at h
    exact h.1
  · exact ih

/-- what the slots hold -/
def tlkTab (b o n cap j : Nat) (Ao : Option Addr) (m co : Nat) (out : List It) (x : It) (s0 : World) : SoftTab := [(14, fun z9 W => ∃ q, z9 = .slice (some ⟨q, 0, none⟩) 0 0 ∧ s0.heap.size ≤ q ∧ W.heap[q]? = some (.cells #[] 27 (0, 0))),
  (15, fun z9 W => z9 = .slice Ao m co),
  (16, fun z9 W => ∃ q : Value, z9 = q ∧ OwnI s0 W q out),
  (17, fun z9 W => z9 = .slice (some ⟨b, o, none⟩) n cap),
  (18, fun z9 W => z9 = Vi (j : Int)),
  (19, fun z9 W => z9 = .pointer (some ⟨b, o + j * 7, none⟩)),
  (20, fun z9 W => z9 = itv x),
  (21, fun z9 W => ∃ q, z9 = .slice (some ⟨q, 0, none⟩) 1 1 ∧ BoxI W q x)]
theorem tlkTab_mono (b o n cap j : Nat) (Ao : Option Addr) (m co : Nat) (out : List It) (x : It) (s0 : World) (Rel : World → World → Prop) (hR : ∀ W W', Rel W W' → Ext W W') : SoftMonoR Rel (tlkTab b o n cap j Ao m co out x s0) := by
  intro p hp v W W' h hx
  simp only [tlkTab, List.mem_cons, List.not_mem_nil, or_false] at hp
  rcases hp with rfl | rfl | rfl | rfl | rfl | rfl | rfl | rfl
  all_goals first
    | exact h
    | (obtain ⟨q, h1, h2, h3⟩ := h
       exact ⟨q, h1, h2, by rw [RowKit.Below.block (hR _ _ hx) q (Array.getElem?_eq_some_iff.1 h3).1]; exact h3⟩)
    | (obtain ⟨q, h1, h2⟩ := h
       exact ⟨q, h1, h2.ext (hR _ _ hx)⟩)

set_option maxRecDepth 100000 in
set_option maxHeartbeats 8000000 in
theorem knownL_any (A : Option Addr) (n cap : Nat) (l : List It) (w : World) (hv : ItS w A l) (hn : l.length = n) (hb : n ≤ 5026338869800) :
    Calls Try.prog 8 #[.slice A n cap] w (RetI w (knL l)) := by
  replace hn := Lib.hid hn
  replace hv := Lib.hid hv
  go_enter Try.func8, Try.ntmps8
  go_wp2
  go_loopw [3, 4] (fun v i W => ∃ (j : Nat), j ≤ n ∧ i = Vi j ∧ Hid (OwnI w W v (knL (l.take j))) ∧ Ext w W) (fun _ i _ => n - (intOf i).toNat)
  case atStart => exact ⟨0, Nat.zero_le _, rfl, Lib.hid (OwnI.nil _ _), Ext.refl _⟩
  case round =>
    obtain ⟨j, hj, rfl, ho, hx⟩ := hrel
    by_cases hlt : j < n
    · obtain ⟨b, o, x, hA, hp, d⟩ := (hv.out.ext hx).at (k := j) (by rw [hn.out]; exact hlt)
      obtain ⟨c0, c1, c2, c3, c4, c5, c6⟩ := d
      have hi1 : (0 : Int) ≤ (j : Int) := by omega
      have hi2 : (j : Int) < (n : Int) := by omega
      have hst := knL_take hp
      have hol : (knL (l.take j)).length ≤ j := by have := knL_len (l.take j); rw [List.length_take] at this; omega
      have hval := Lib.hid (fun W => validRef_any x.ch W)
      subst hA
      clear hp
      obtain ⟨Ao, co, rfl, _, hI⟩ := ho.out.open
      generalize knL (l.take j) = out at *
      obtain ⟨m, hm⟩ : ∃ m, out.length = m := ⟨_, rfl⟩
      rw [hm] at hol ho ⊢
      replace hm := Lib.hid hm
      replace hI := Lib.hid hI
      go_wp2_with fail
      refine wp_soft_frame Ext 8 (tlkTab b o n cap j Ao m co out x wr) (by kernel_rfl) (by kernel_rfl) (fun _ _ _ => Ext.trans) ((Ext.refl _).drew) rfl (by show List.Nodup [14, 15, 16, 17, 18, 19, 20, 21]; decide) (by show ∀ d ∈ [14, 15, 16, 17, 18, 19, 20, 21], d < 37; decide) (tlkTab_mono b o n cap j Ao m co out x wr Ext (fun _ _ h => h)) ?_ ⟨?_, ?_, ?_, ?_, ?_, ?_, ?_, ?_, trivial⟩
      · intro W vs hT hR
        match vs, hT with
        | [v0, v1, v2, v3, v4, v5, v6, v7], ⟨e0, e1, e2, e3, e4, e5, e6, e7, _⟩ =>
          simp only [tlkTab, List.map_cons, List.map_nil, List.zip_cons_cons, List.zip_nil_left, putAll, List.setIfInBounds_toArray, List.set_cons_zero, List.set_cons_succ, List.drop_succ_cons, List.drop_zero]
          simp only at e1 e3 e4 e5 e6
          obtain ⟨q0, e0, h0⟩ := e0
          obtain ⟨q2, e2, h2⟩ := e2
          obtain ⟨q7, e7, h7⟩ := e7
          rw [e0, e1, e2, e3, e4, e5, e6, e7]
          clear e0 e1 e2 e3 e4 e5 e6 e7 v0 v1 v2 v3 v4 v5 v6 v7
          have hb7 := h7.cells
          have hr7 : ItS W (some ⟨q7, 0, none⟩) [x] := ItS.box h7
          clear hT c0 c1 c2 c3 c4 c5 h0
          go_wp2_with (first
              | (at_builtin
                 refine wpList_append_IB (w0 := wr) rfl (.tmp 16) (.tmp 21) rfl _ out rfl h2 hR _ 1 1 [x] rfl rfl hr7 (by rw [hm.out, List.length_cons, List.length_nil]; omega) ?_
                 intro v5 w5 o5 x5 g5 e5
                 have y6 := x5.keep c6)
              | fail)
          refine (hval.out _).mono ?_
          rintro e w5b ⟨rfl, rfl⟩
          obtain ⟨A5, c5, rfl, hc5, hI5⟩ := o5.open
          obtain ⟨m5, hm5⟩ : ∃ k, (out ++ [x]).length = k := ⟨_, rfl⟩
          rw [hm5] at hc5 o5 ⊢
          have ho5 := Lib.hid o5
          have hkn := Lib.hid (known_ref A5 m5 c5 (out ++ [x]) w5 hI5 hm5 hc5 (by rw [← hm5, List.length_append, hm.out, List.length_cons, List.length_nil]; omega))
          clear hm5
          clear o5 hI5 g5 e5 hb7 hr7 h7 h2 y6 c6
          go_wp2_with fail
          refine hkn.out.mono ?_
          rintro e w6 ⟨rfl, x6⟩
          clear hkn
          cases hkb : knownI (out ++ [x]) with
          | false =>
            rw [hkb, Bool.false_and, if_neg (by simp)] at hst
            replace hst := Lib.hid hst
            clear hkb
            go_wp2
            go_roundw
            case rel => exact ⟨j + 1, by omega, by go_num, Lib.hid (by rw [hst.out]; exact ((ho.out.ext x5).ext x6)), (hx.trans x5).trans x6⟩
            case measure => simp [intOf]; omega
          | true =>
            rw [hkb, Bool.true_and] at hst
            cases hch : okB x.ch with
            | false =>
              rw [hch, if_neg (by simp)] at hst
              replace hst := Lib.hid hst
              clear hkb hch
              go_wp2
              go_roundw
              case rel => exact ⟨j + 1, by omega, by go_num, Lib.hid (by rw [hst.out]; exact ((ho.out.ext x5).ext x6)), (hx.trans x5).trans x6⟩
              case measure => simp [intOf]; omega
            | true =>
              rw [hch, if_pos rfl] at hst
              replace hst := Lib.hid hst
              clear hkb hch
              go_wp2
              go_roundw
              case rel => exact ⟨j + 1, by omega, by go_num, Lib.hid (by rw [hst.out]; exact (ho5.out.ext x6).down hx), (hx.trans x5).trans x6⟩
              case measure => simp [intOf]; omega
      · refine softR_val 14 _ (by kernel_rfl) rfl rfl ?_
        intro a W hx hout hdep
        refine ⟨rfl, .slice (some ⟨W.heap.size, 0, none⟩) 0 0, _, ?_, ⟨_, rfl, hx.size, heap_alloc_new W _⟩, (Ext.refl W).alloc _⟩
        simp [execOp, go_sem]
      · refine softR_val 15 _ (by kernel_rfl) rfl rfl ?_
        intro a W hx hout hdep
        have ev3 : a.tmps[3]?.getD undef = .slice Ao m co := by rw [← Array.getD_eq_getD_getElem?]; exact hout 3 (by show 3 ∉ [14, 15, 16, 17, 18, 19, 20, 21]; decide)
        refine ⟨rfl, .slice Ao m co, W, ?_, rfl, Ext.refl _⟩
        simp [ev3, execOp, go_sem]
      · refine softR_val 16 _ (by kernel_rfl) rfl rfl ?_
        intro a W hx hout hdep
        have tl14 := (hdep ⟨0, .data⟩ (by simp) rfl 14 _ rfl).1
        have ev15 : a.tmps[15]?.getD undef = .slice Ao m co := by rw [← Array.getD_eq_getD_getElem?]; exact (hdep ⟨1, .data⟩ (by simp) rfl 15 _ rfl).1
        obtain ⟨q9, eq9, hq9, hc9⟩ := tl14
        have hs9 : a.eval (.tmp 14) = .slice (some ⟨q9, 0, none⟩) 0 0 := eq9
        have ht9 : a.eval (.tmp 15) = .slice Ao m co := (hdep ⟨1, .data⟩ (by simp) rfl 15 _ rfl).1
        obtain ⟨v9, w9, hrun9, ho9, hx9⟩ := run_append_I0 wr W 22 q9 out Ao m co hm.out (hI.out.ext hx) hx (by omega) hq9 hc9
        refine ⟨rfl, v9, w9, ?_, ⟨_, rfl, ho9⟩, hx9⟩
        simp only [execOp, resolve, invoke, builtin, Sem.run_bind, Sem.run_pure, Result.andThen_ok, List.map_toArray, List.map_cons, List.map_nil, hs9, ht9, hrun9]
      · refine softR_val 17 _ (by kernel_rfl) rfl rfl ?_
        intro a W hx hout hdep
        have ev0 : a.tmps[0]?.getD undef = .slice (some ⟨b, o, none⟩) n cap := by rw [← Array.getD_eq_getD_getElem?]; exact hout 0 (by show 0 ∉ [14, 15, 16, 17, 18, 19, 20, 21]; decide)
        refine ⟨rfl, .slice (some ⟨b, o, none⟩) n cap, W, ?_, rfl, Ext.refl _⟩
        simp [ev0, execOp, go_sem]
      · refine softR_val 18 _ (by kernel_rfl) rfl rfl ?_
        intro a W hx hout hdep
        have ev4 : a.tmps[4]?.getD undef = Vi (j : Int) := by rw [← Array.getD_eq_getD_getElem?]; exact hout 4 (by show 4 ∉ [14, 15, 16, 17, 18, 19, 20, 21]; decide)
        refine ⟨rfl, Vi (j : Int), W, ?_, rfl, Ext.refl _⟩
        simp [ev4, execOp, go_sem]
      · refine softR_val 19 _ (by kernel_rfl) rfl rfl ?_
        intro a W hx hout hdep
        have ev17 : a.tmps[17]?.getD undef = .slice (some ⟨b, o, none⟩) n cap := by rw [← Array.getD_eq_getD_getElem?]; exact (hdep ⟨3, .data⟩ (by simp) rfl 17 _ rfl).1
        have ev18 : a.tmps[18]?.getD undef = Vi (j : Int) := by rw [← Array.getD_eq_getD_getElem?]; exact (hdep ⟨4, .data⟩ (by simp) rfl 18 _ rfl).1
        refine ⟨rfl, .pointer (some ⟨b, o + j * 7, none⟩), W, ?_, rfl, Ext.refl _⟩
        simp [ev17, ev18, hi1, hi2, execOp, go_sem]
      · refine softR_val 20 _ (by kernel_rfl) rfl rfl ?_
        intro a W hx hout hdep
        have ev19 : a.tmps[19]?.getD undef = .pointer (some ⟨b, o + j * 7, none⟩) := by rw [← Array.getD_eq_getD_getElem?]; exact (hdep ⟨5, .data⟩ (by simp) rfl 19 _ rfl).1
        have q0 := hx.keep c0
        have q1 := hx.keep c1
        have q2 := hx.keep c2
        have q3 := hx.keep c3
        have q4 := hx.keep c4
        have q5 := hx.keep c5
        have q6 := hx.keep c6
        refine ⟨rfl, itv x, W, ?_, rfl, Ext.refl _⟩
        simp [ev19, q0, q1, q2, q3, q4, q5, q6, execOp, go_sem]
      · refine softR_val 21 _ (by kernel_rfl) rfl rfl ?_
        intro a W hx hout hdep
        have ev20 : a.tmps[20]?.getD undef = itv x := by rw [← Array.getD_eq_getD_getElem?]; exact (hdep ⟨6, .data⟩ (by simp) rfl 20 _ rfl).1
        refine ⟨rfl, .slice (some ⟨W.heap.size, 0, none⟩) 1 1, _, ?_, ⟨_, rfl, heap_alloc_new W _⟩, (Ext.refl W).alloc _⟩
        simp [ev20, execOp, go_sem]
    · have hfull := Lib.hid (show l.take j = l from List.take_of_length_le (by rw [hn.out]; omega))
      rw [hfull.out] at ho
      go_wp2
      go_ret
      exact ⟨_, rfl, ho.out, hx⟩

end Go.Proofs.Ytnocdfmmhnnbeaa

namespace Go.Proofs.Ytnocdfmmhnnbeaa
open Go.ChangeShapes Go.WideShapes Go.ChangeAt Go.RowKit Go.Sort
set_option linter.unusedVariables false
set_option linter.unusedSimpArgs false

theorem pick8_any (n : Int) (k : Nat) (w : World) (hk : 0 < k) (hk2 : k ≤ 3000) : Calls Try.prog 15 #[Vi n, Vi k] w fun e w' => (∃ r : Nat, r < k ∧ e = .returned (Vi r)) ∧ w = w' := by
  have h1 : Int.tmod n k < k := Int.tmod_lt_of_pos n (by omega)
  have h2 : -(k : Int) < Int.tmod n k := Int.lt_tmod_of_pos n (by omega)
  have h3 : ((k : Int) == 0) = false := by rw [beq_eq_false_iff_ne]; omega
  by_cases hneg : Int.tmod n k < 0
  · go_enter Try.func15, Try.ntmps15
    go_wp2
    go_ret
    exact ⟨⟨(Int.tmod n k + k).toNat, by omega, ret_i64 (by omega)⟩, rfl⟩
  · go_enter Try.func15, Try.ntmps15
    go_wp2
    go_ret
    exact ⟨⟨(Int.tmod n k).toNat, by omega, ret_i64 (by omega)⟩, rfl⟩

end Go.Proofs.Ytnocdfmmhnnbeaa

namespace Go.Proofs.Ytnocdfmmhnnbeaa
open Go.ChangeShapes Go.WideShapes Go.ChangeAt Go.RowKit Go.Sort
set_option linter.unusedVariables false
set_option linter.unusedSimpArgs false

theorem OdS.take {w : World} {A : Option Addr} {l : List I2} (h : OdS w A l) (k : Nat) : OdS w A (l.take k) := by
  unfold OdS; rw [flat_take encO_len]; exact Row.take h _
theorem OdS.cut {w : World} {A : Option Addr} {l : List I2} (h : OdS w A l) {n cap k : Nat} (hn : l.length = n) (hc : n ≤ cap) (hk : k ≤ n) : OdS w (cutA A cap k 2) (l.drop k) := by
  unfold OdS; rw [flat_drop encO_len]; exact Row.cut h (n := n) (by rw [flat_len encO_len, hn]) hc hk
theorem fromO (A : Option Addr) (n cap k : Nat) (h1 : k ≤ n) (z : Int) (hz : z = k) (W : World) : (Instr.slice 32 (.slice A n cap) (some (.int .i64 z)) none none).run Try.prog W = .ok (.slice (cutA A cap k 2) (n - k) (cap - k)) W := by
  subst hz
  obtain ⟨i, hi, hz0, hz1, hz2⟩ := info_parts infoO
  have := run_from Try.underlying32 hi A n cap k W (by omega) (by omega)
  rw [hz1] at this
  exact this
theorem uptoO (A : Option Addr) (n cap k : Nat) (h1 : k ≤ cap) (z : Int) (hz : z = k) (W : World) : (Instr.slice 32 (.slice A n cap) none (some (.int .i64 z)) none).run Try.prog W = .ok (.slice A k cap) W := by
  subst hz
  obtain ⟨i, hi, hz0, hz1, hz2⟩ := info_parts infoO
  exact run_upto Try.underlying32 hi A n cap k W (by omega) (by omega)
/-- append to an empty slice of no room, wherever it points -/
theorem appendO_base {P : Program} (w : World) (t ty e : TypeId) (i : TypeInfo) (ht : P.underlying t = some (.slice e)) (hi : P.info? e = some i) (base : Option Addr) (A : Option Addr) (m c : Nat) (hm : 0 < m)
    (hfit : Builtin.nextslicecap m 0 * i.bytes ≤ 281474976710656) (h63 : (m : Int) ≤ 9223372036854775807) :
    (Builtin.append_ #[t, t] ty #[.slice base 0 0, .slice A m c]).run P w = (Builtin.append_ #[t, t] ty #[.slice none 0 0, .slice A m c]).run P w := by
  have h48' : ¬ (281474976710656 < Builtin.nextslicecap m 0 * i.bytes) := by omega
  have h63' : ¬ (9223372036854775807 < (m : Int)) := by omega
  have hm0 : ¬ (m ≤ 0) := by omega
  have hm1 : ¬ (m = 0) := by omega
  cases base with
  | none => rfl
  | some a =>
    simp [Builtin.append_, run_underlying ht, sizeOf, typeInfo, hi, Builtin.lenOf, hm1, h48', h63', Builtin.firstCells, loadCells, loadCellsFrom]
theorem run_append_O0 (w0 w : World) (ty : TypeId) (q : Nat) (l : List I2) (A : Option Addr) (m c : Nat) (hm : l.length = m) (hr : OdS w A l) (hx : Ext w0 w) (hb : m ≤ 5026338869833) (hq : w0.heap.size ≤ q) (hqc : w.heap[q]? = some (.cells #[] 25 (0, 0))) :
    ∃ v' w', (Builtin.append_ #[32, 32] ty #[.slice (some ⟨q, 0, none⟩) 0 0, .slice A m c]).run Try.prog w = .ok v' w' ∧ OwnO w0 w' v' l ∧ Ext w w' := by
  obtain ⟨i, hi, hz0, hz1, hz2⟩ := info_parts infoO
  subst hm
  obtain ⟨v', w', hrun, h2, h3, h4⟩ := run_append_rowB (P := Try.prog) w w0.heap.size 32 ty 25 i _ 2 8 Try.underlying32 hi hz0 hz1 hz2 rfl (by omega) (.slice none 0 0) 0 [] (World.ownsRow_nil w _ _ _) A l.length c _ (flat_len encO_len l) hr (flat_one_cell encO_one l)
    (by unfold maxLen; omega) (by omega) hx.size
  rcases Nat.eq_zero_or_pos l.length with h0 | h0
  · obtain rfl : l = [] := List.eq_nil_of_length_eq_zero h0
    refine ⟨.slice (some ⟨q, 0, none⟩) 0 0, w, ?_, ⟨by simp [flat], .inr ⟨q, 0, #[], rfl, hq, hqc, Nat.le_refl _, by unfold maxLen; omega, by simp, by simp [flat]⟩⟩, Ext.refl _⟩
    cases A <;> simp [Builtin.append_, run_underlying Try.underlying32, sizeOf, typeInfo, hi, Builtin.lenOf, Builtin.firstCells, storeCells, loadCells, loadCellsFrom]
  · refine ⟨v', w', ?_, ?_, ?_⟩
    · rw [appendO_base w _ _ _ i Try.underlying32 hi _ A l.length c h0 ?_ (by omega)]
      · exact hrun
      · rw [hz2]
        have : Builtin.nextslicecap l.length 0 ≤ l.length := by
          unfold Builtin.nextslicecap
          rw [if_pos (by omega)]
          omega
        omega
    · unfold OwnO OwnG
      have := h2
      rw [Nat.zero_add, List.nil_append] at this
      exact this
    · exact Ext.grown (Ext.refl w) (v := .slice none 0 0) h3 (fun k hk => by cases hk)

end Go.Proofs.Ytnocdfmmhnnbeaa

namespace Go.Proofs.Ytnocdfmmhnnbeaa
open Go.ChangeShapes Go.WideShapes Go.ChangeAt Go.RowKit Go.Sort
set_option linter.unusedVariables false
set_option linter.unusedSimpArgs false

theorem rem_nat (a b : Nat) (hb : 0 < b) (hm : b ≤ 1000) (W : World) : (binOp .rem 3 (.int .i64 (a : Int)) (.int .i64 (b : Int))).run Try.prog W = .ok (.int .i64 ((a % b : Nat) : Int)) W := by
  have h1 : Int.tmod (a : Int) (b : Int) = ((a % b : Nat) : Int) := by rw [Int.ofNat_tmod]
  have hl : a % b < 1000 := Nat.lt_of_lt_of_le (Nat.mod_lt a hb) hm
  generalize a % b = c at *
  simp [go_sem, h1]
  omega
end Go.Proofs.Ytnocdfmmhnnbeaa
