/-
  Several texts of this seat in one file, each in the namespace again; no claim stands here.
-/
import Derived.Room.AppendUpon
import Derived.Deep.DeepCutAuto
import Derived.Deep.SlicePairs
import Derived.Lay
import Derived.ChangeMaps5
import Derived.IntWalk
import Derived.Test.YtnocdfmmhnnbeaaYO
import Derived.Test.YtnocdfmmhnnbeaaYS
import Derived.Test.YtnocdfmmhnnbeaaYN
import Derived.Test.YtnocdfmmhnnbeaaTBtL
namespace Go.Proofs.Ytnocdfmmhnnbeaa
open Go.ChangeShapes Go.WideShapes Go.ChangeAt Go.RowKit Go.Sort
set_option linter.unusedVariables false
set_option linter.unusedSimpArgs false
attribute [local go_sem] World.cell?_alloc_some

theorem wpList_append_IB {w0 w : World} {ops : Array Oper} {rest : List Oper} {o : Oper} {a : Act} {Q : Exit → Act → World → Prop} (hgd : o.guard = none) (s x : Operand)
    (ho : o.op = .call { callee := .builtin .append, args := #[s, x], argTypes := #[22, 22] })
    (v : Value) (l : List It) (hs : a.eval s = v) (hown : OwnI w0 w v l) (hx : Ext w0 w)
    (A : Option Addr) (m c : Nat) (r : List It) (he : a.eval x = .slice A m c) (hm : r.length = m) (hr : ItS w A r) (hb : l.length + r.length ≤ 5026338869833)
    (h : ∀ v' w', OwnI w0 w' v' (l ++ r) → Ext w0 w' → w.grownBy w' v.ownBlock → (v'.ownBlock = v.ownBlock ∨ v'.ownBlock = some w.heap.size) → wpList Try.prog ops Q rest (a.put o.dst v') w') : wpList Try.prog ops Q (o :: rest) a w := by
  refine wpList_plain hgd fun K hK => ?_
  obtain ⟨i, hi, hz0, hz1, hz2⟩ := info_parts infoI
  subst hm
  obtain ⟨v', w', hrun, h2, h3, h4⟩ := run_append_rowB (P := Try.prog) w w0.heap.size 22 o.type 27 i _ 7 28 Try.underlying22 hi hz0 hz1 hz2 rfl (by omega) v l.length _ hown A r.length c _ (flat_len encI_len r) hr (flat_one_cell encI_one r)
    (by unfold maxLen; omega) (by omega) hx.size
  unfold Oper.wp execOp
  simp only [ho, resolve, invoke, builtin, Sem.run_bind, Sem.run_pure, Result.andThen_ok, List.map_toArray, List.map_cons, List.map_nil, hs, he, hrun]
  refine hK _ _ (h v' w' ?_ (hx.grown h3 (OwnG.lt hown)) h3 h4)
  unfold OwnI OwnG
  rw [flat_append, List.length_append]
  exact h2
/-- append to an empty slice of no room, wherever it points -/
theorem appendI_base {P : Program} (w : World) (t ty e : TypeId) (i : TypeInfo) (ht : P.underlying t = some (.slice e)) (hi : P.info? e = some i) (base : Option Addr) (A : Option Addr) (m c : Nat) (hm : 0 < m)
    (hfit : Builtin.nextslicecap m 0 * i.bytes ≤ 281474976710656) (h63 : (m : Int) ≤ 9223372036854775807) :
    (Builtin.append_ #[t, t] ty #[.slice base 0 0, .slice A m c]).run P w = (Builtin.append_ #[t, t] ty #[.slice none 0 0, .slice A m c]).run P w := by
  have h48' : ¬ (281474976710656 < Builtin.nextslicecap m 0 * i.bytes) := by omega
  have h63' : ¬ (9223372036854775807 < (m : Int)) := by omega
  have hm0 : ¬ (m ≤ 0) := by omega
  have hm1 : ¬ (m = 0) := by omega
  cases base with
  | none => rfl
  | some a =>
    simp [Builtin.append_, run_underlying ht, sizeOf, typeInfo, hi, Builtin.lenOf, hm1, h48', h63', Builtin.firstCells, loadCells, loadCellsFrom]
theorem run_append_I0 (w0 w : World) (ty : TypeId) (q : Nat) (l : List It) (A : Option Addr) (m c : Nat) (hm : l.length = m) (hr : ItS w A l) (hx : Ext w0 w) (hb : m ≤ 5026338869833) (hq : w0.heap.size ≤ q) (hqc : w.heap[q]? = some (.cells #[] 27 (0, 0))) :
    ∃ v' w', (Builtin.append_ #[22, 22] ty #[.slice (some ⟨q, 0, none⟩) 0 0, .slice A m c]).run Try.prog w = .ok v' w' ∧ OwnI w0 w' v' l ∧ Ext w w' := by
  obtain ⟨i, hi, hz0, hz1, hz2⟩ := info_parts infoI
  subst hm
  obtain ⟨v', w', hrun, h2, h3, h4⟩ := run_append_rowB (P := Try.prog) w w0.heap.size 22 ty 27 i _ 7 28 Try.underlying22 hi hz0 hz1 hz2 rfl (by omega) (.slice none 0 0) 0 [] (World.ownsRow_nil w _ _ _) A l.length c _ (flat_len encI_len l) hr (flat_one_cell encI_one l)
    (by unfold maxLen; omega) (by omega) hx.size
  rcases Nat.eq_zero_or_pos l.length with h0 | h0
  · obtain rfl : l = [] := List.eq_nil_of_length_eq_zero h0
    refine ⟨.slice (some ⟨q, 0, none⟩) 0 0, w, ?_, ⟨by simp [flat], .inr ⟨q, 0, #[], rfl, hq, hqc, Nat.le_refl _, by unfold maxLen; omega, by simp, by simp [flat]⟩⟩, Ext.refl _⟩
    cases A <;> simp [Builtin.append_, run_underlying Try.underlying22, sizeOf, typeInfo, hi, Builtin.lenOf, Builtin.firstCells, storeCells, loadCells, loadCellsFrom]
  · refine ⟨v', w', ?_, ?_, ?_⟩
    · rw [appendI_base w _ _ _ i Try.underlying22 hi _ A l.length c h0 ?_ (by omega)]
      · exact hrun
      · rw [hz2]
        have : Builtin.nextslicecap l.length 0 ≤ l.length := by
          unfold Builtin.nextslicecap
          rw [if_pos (by omega)]
          omega
        omega
    · unfold OwnI OwnG
      have := h2
      rw [Nat.zero_add, List.nil_append] at this
      exact this
    · exact Ext.grown (Ext.refl w) (v := .slice none 0 0) h3 (fun k hk => by cases hk)
theorem ItS.box {W : World} {q : Nat} {x : It} (h : BoxI W q x) : ItS W (some ⟨q, 0, none⟩) [x] := fun _ => ⟨_, _, rfl, fun j u hu => by rw [← add_at]; exact World.news_of_block h j u hu⟩

/-- one more, if it may stand there -/
def stepK (out : List It) (x : It) : List It := if knownI (out ++ [x]) && okB x.ch then out ++ [x] else out
/-- items as known ones -/
def knL (l : List It) : List It := l.foldl stepK []
theorem knL_take {l : List It} {j : Nat} {x : It} (h : l[j]? = some x) : knL (l.take (j + 1)) = if knownI (knL (l.take j) ++ [x]) && okB x.ch then knL (l.take j) ++ [x] else knL (l.take j) := by
  rw [take_get h]
  unfold knL
  rw [List.foldl_append]
  rfl
theorem knL_len (l : List It) : (knL l).length ≤ l.length := by
  refine snoc_ind (P := fun l => (knL l).length ≤ l.length) (Nat.le_refl _) (fun l x ih => ?_) l
  have : knL (l ++ [x]) = stepK (knL l) x := by unfold knL; rw [List.foldl_append]; rfl
  rw [this]
  unfold stepK
  rw [List.length_append]
  split
  · rw [List.length_append]; simp; omega
  · simp; omega
theorem knL_known (l : List It) : knownI (knL l) = true := by
  refine snoc_ind (P := fun l => knownI (knL l) = true) rfl (fun l x ih => ?_) l
  have : knL (l ++ [x]) = stepK (knL l) x := by unfold knL; rw [List.foldl_append]; rfl
  rw [this]
  unfold stepK
  split
  · rename_i h
    rw [Bool.and_eq_true] at h
    exact h.1
  · exact ih

/-- what the slots hold -/
def tlkTab (b o n cap j : Nat) (Ao : Option Addr) (m co : Nat) (out : List It) (x : It) (s0 : World) : SoftTab := [(14, fun z9 W => ∃ q, z9 = .slice (some ⟨q, 0, none⟩) 0 0 ∧ s0.heap.size ≤ q ∧ W.heap[q]? = some (.cells #[] 27 (0, 0))),
  (15, fun z9 W => z9 = .slice Ao m co),
  (16, fun z9 W => ∃ q : Value, z9 = q ∧ OwnI s0 W q out),
  (17, fun z9 W => z9 = .slice (some ⟨b, o, none⟩) n cap),
  (18, fun z9 W => z9 = Vi (j : Int)),
  (19, fun z9 W => z9 = .pointer (some ⟨b, o + j * 7, none⟩)),
  (20, fun z9 W => z9 = itv x),
  (21, fun z9 W => ∃ q, z9 = .slice (some ⟨q, 0, none⟩) 1 1 ∧ BoxI W q x)]
theorem tlkTab_mono (b o n cap j : Nat) (Ao : Option Addr) (m co : Nat) (out : List It) (x : It) (s0 : World) (Rel : World → World → Prop) (hR : ∀ W W', Rel W W' → Ext W W') : SoftMonoR Rel (tlkTab b o n cap j Ao m co out x s0) := by
  intro p hp v W W' h hx
  simp only [tlkTab, List.mem_cons, List.not_mem_nil, or_false] at hp
  rcases hp with rfl | rfl | rfl | rfl | rfl | rfl | rfl | rfl
  all_goals first
    | exact h
    | (obtain ⟨q, h1, h2, h3⟩ := h
       exact ⟨q, h1, h2, by rw [RowKit.Below.block (hR _ _ hx) q (Array.getElem?_eq_some_iff.1 h3).1]; exact h3⟩)
    | (obtain ⟨q, h1, h2⟩ := h
       exact ⟨q, h1, h2.ext (hR _ _ hx)⟩)

set_option maxRecDepth 100000 in
set_option maxHeartbeats 8000000 in
theorem knownL_any (A : Option Addr) (n cap : Nat) (l : List It) (w : World) (hv : ItS w A l) (hn : l.length = n) (hb : n ≤ 5026338869800) :
    Calls Try.prog 8 #[.slice A n cap] w (RetI w (knL l)) := by
  replace hn := Lib.hid hn
  replace hv := Lib.hid hv
  go_enter Try.func8, Try.ntmps8
  go_wp2
  go_loopw [3, 4] (fun v i W => ∃ (j : Nat), j ≤ n ∧ i = Vi j ∧ Hid (OwnI w W v (knL (l.take j))) ∧ Ext w W) (fun _ i _ => n - (intOf i).toNat)
  case atStart => exact ⟨0, Nat.zero_le _, rfl, Lib.hid (OwnI.nil _ _), Ext.refl _⟩
  case round =>
    obtain ⟨j, hj, rfl, ho, hx⟩ := hrel
    by_cases hlt : j < n
    · obtain ⟨b, o, x, hA, hp, d⟩ := (hv.out.ext hx).at (k := j) (by rw [hn.out]; exact hlt)
      obtain ⟨c0, c1, c2, c3, c4, c5, c6⟩ := d
      have hi1 : (0 : Int) ≤ (j : Int) := by omega
      have hi2 : (j : Int) < (n : Int) := by omega
      have hst := knL_take hp
      have hol : (knL (l.take j)).length ≤ j := by have := knL_len (l.take j); rw [List.length_take] at this; omega
      have hval := Lib.hid (fun W => validRef_any x.ch W)
      subst hA
      clear hp
      obtain ⟨Ao, co, rfl, _, hI⟩ := ho.out.open
      generalize knL (l.take j) = out at *
      obtain ⟨m, hm⟩ : ∃ m, out.length = m := ⟨_, rfl⟩
      rw [hm] at hol ho ⊢
      replace hm := Lib.hid hm
      replace hI := Lib.hid hI
      go_wp2_with fail
      refine wp_soft_frame Ext 8 (tlkTab b o n cap j Ao m co out x wr) (by kernel_rfl) (by kernel_rfl) (fun _ _ _ => Ext.trans) ((Ext.refl _).drew) rfl (by show List.Nodup [14, 15, 16, 17, 18, 19, 20, 21]; decide) (by show ∀ d ∈ [14, 15, 16, 17, 18, 19, 20, 21], d < 37; decide) (tlkTab_mono b o n cap j Ao m co out x wr Ext (fun _ _ h => h)) ?_ ⟨?_, ?_, ?_, ?_, ?_, ?_, ?_, ?_, trivial⟩
      · intro W vs hT hR
        match vs, hT with
        | [v0, v1, v2, v3, v4, v5, v6, v7], ⟨e0, e1, e2, e3, e4, e5, e6, e7, _⟩ =>
          simp only [tlkTab, List.map_cons, List.map_nil, List.zip_cons_cons, List.zip_nil_left, putAll, List.setIfInBounds_toArray, List.set_cons_zero, List.set_cons_succ, List.drop_succ_cons, List.drop_zero]
          simp only at e1 e3 e4 e5 e6
          obtain ⟨q0, e0, h0⟩ := e0
          obtain ⟨q2, e2, h2⟩ := e2
          obtain ⟨q7, e7, h7⟩ := e7
          rw [e0, e1, e2, e3, e4, e5, e6, e7]
          clear e0 e1 e2 e3 e4 e5 e6 e7 v0 v1 v2 v3 v4 v5 v6 v7
          have hb7 := h7.cells
          have hr7 : ItS W (some ⟨q7, 0, none⟩) [x] := ItS.box h7
          clear hT c0 c1 c2 c3 c4 c5 h0
          go_wp2_with (first
              | (at_builtin
                 refine wpList_append_IB (w0 := wr) rfl (.tmp 16) (.tmp 21) rfl _ out rfl h2 hR _ 1 1 [x] rfl rfl hr7 (by rw [hm.out, List.length_cons, List.length_nil]; omega) ?_
                 intro v5 w5 o5 x5 g5 e5
                 have y6 := x5.keep c6)
              | fail)
          refine (hval.out _).mono ?_
          rintro e w5b ⟨rfl, rfl⟩
          obtain ⟨A5, c5, rfl, hc5, hI5⟩ := o5.open
          obtain ⟨m5, hm5⟩ : ∃ k, (out ++ [x]).length = k := ⟨_, rfl⟩
          rw [hm5] at hc5 o5 ⊢
          have ho5 := Lib.hid o5
          have hkn := Lib.hid (known_ref A5 m5 c5 (out ++ [x]) w5 hI5 hm5 hc5 (by rw [← hm5, List.length_append, hm.out, List.length_cons, List.length_nil]; omega))
          clear hm5
          clear o5 hI5 g5 e5 hb7 hr7 h7 h2 y6 c6
          go_wp2_with fail
          refine hkn.out.mono ?_
          rintro e w6 ⟨rfl, x6⟩
          clear hkn
          cases hkb : knownI (out ++ [x]) with
          | false =>
            rw [hkb, Bool.false_and, if_neg (by simp)] at hst
            replace hst := Lib.hid hst
            clear hkb
            go_wp2
            go_roundw
            case rel => exact ⟨j + 1, by omega, by go_num, Lib.hid (by rw [hst.out]; exact ((ho.out.ext x5).ext x6)), (hx.trans x5).trans x6⟩
            case measure => simp [intOf]; omega
          | true =>
            rw [hkb, Bool.true_and] at hst
            cases hch : okB x.ch with
            | false =>
              rw [hch, if_neg (by simp)] at hst
              replace hst := Lib.hid hst
              clear hkb hch
              go_wp2
              go_roundw
              case rel => exact ⟨j + 1, by omega, by go_num, Lib.hid (by rw [hst.out]; exact ((ho.out.ext x5).ext x6)), (hx.trans x5).trans x6⟩
              case measure => simp [intOf]; omega
            | true =>
              rw [hch, if_pos rfl] at hst
              replace hst := Lib.hid hst
              clear hkb hch
              go_wp2
              go_roundw
              case rel => exact ⟨j + 1, by omega, by go_num, Lib.hid (by rw [hst.out]; exact (ho5.out.ext x6).down hx), (hx.trans x5).trans x6⟩
              case measure => simp [intOf]; omega
      · refine softR_val 14 _ (by kernel_rfl) rfl rfl ?_
        intro a W hx hout hdep
        refine ⟨rfl, .slice (some ⟨W.heap.size, 0, none⟩) 0 0, _, ?_, ⟨_, rfl, hx.size, heap_alloc_new W _⟩, (Ext.refl W).alloc _⟩
        simp [execOp, go_sem]
      · refine softR_val 15 _ (by kernel_rfl) rfl rfl ?_
        intro a W hx hout hdep
        have ev3 : a.tmps[3]?.getD undef = .slice Ao m co := by rw [← Array.getD_eq_getD_getElem?]; exact hout 3 (by show 3 ∉ [14, 15, 16, 17, 18, 19, 20, 21]; decide)
        refine ⟨rfl, .slice Ao m co, W, ?_, rfl, Ext.refl _⟩
        simp [ev3, execOp, go_sem]
      · refine softR_val 16 _ (by kernel_rfl) rfl rfl ?_
        intro a W hx hout hdep
        have tl14 := (hdep ⟨0, .data⟩ (by simp) rfl 14 _ rfl).1
        have ev15 : a.tmps[15]?.getD undef = .slice Ao m co := by rw [← Array.getD_eq_getD_getElem?]; exact (hdep ⟨1, .data⟩ (by simp) rfl 15 _ rfl).1
        obtain ⟨q9, eq9, hq9, hc9⟩ := tl14
        have hs9 : a.eval (.tmp 14) = .slice (some ⟨q9, 0, none⟩) 0 0 := eq9
        have ht9 : a.eval (.tmp 15) = .slice Ao m co := (hdep ⟨1, .data⟩ (by simp) rfl 15 _ rfl).1
        obtain ⟨v9, w9, hrun9, ho9, hx9⟩ := run_append_I0 wr W 22 q9 out Ao m co hm.out (hI.out.ext hx) hx (by omega) hq9 hc9
        refine ⟨rfl, v9, w9, ?_, ⟨_, rfl, ho9⟩, hx9⟩
        simp only [execOp, resolve, invoke, builtin, Sem.run_bind, Sem.run_pure, Result.andThen_ok, List.map_toArray, List.map_cons, List.map_nil, hs9, ht9, hrun9]
      · refine softR_val 17 _ (by kernel_rfl) rfl rfl ?_
        intro a W hx hout hdep
        have ev0 : a.tmps[0]?.getD undef = .slice (some ⟨b, o, none⟩) n cap := by rw [← Array.getD_eq_getD_getElem?]; exact hout 0 (by show 0 ∉ [14, 15, 16, 17, 18, 19, 20, 21]; decide)
        refine ⟨rfl, .slice (some ⟨b, o, none⟩) n cap, W, ?_, rfl, Ext.refl _⟩
        simp [ev0, execOp, go_sem]
      · refine softR_val 18 _ (by kernel_rfl) rfl rfl ?_
        intro a W hx hout hdep
        have ev4 : a.tmps[4]?.getD undef = Vi (j : Int) := by rw [← Array.getD_eq_getD_getElem?]; exact hout 4 (by show 4 ∉ [14, 15, 16, 17, 18, 19, 20, 21]; decide)
        refine ⟨rfl, Vi (j : Int), W, ?_, rfl, Ext.refl _⟩
        simp [ev4, execOp, go_sem]
      · refine softR_val 19 _ (by kernel_rfl) rfl rfl ?_
        intro a W hx hout hdep
        have ev17 : a.tmps[17]?.getD undef = .slice (some ⟨b, o, none⟩) n cap := by rw [← Array.getD_eq_getD_getElem?]; exact (hdep ⟨3, .data⟩ (by simp) rfl 17 _ rfl).1
        have ev18 : a.tmps[18]?.getD undef = Vi (j : Int) := by rw [← Array.getD_eq_getD_getElem?]; exact (hdep ⟨4, .data⟩ (by simp) rfl 18 _ rfl).1
        refine ⟨rfl, .pointer (some ⟨b, o + j * 7, none⟩), W, ?_, rfl, Ext.refl _⟩
        simp [ev17, ev18, hi1, hi2, execOp, go_sem]
      · refine softR_val 20 _ (by kernel_rfl) rfl rfl ?_
        intro a W hx hout hdep
        have ev19 : a.tmps[19]?.getD undef = .pointer (some ⟨b, o + j * 7, none⟩) := by rw [← Array.getD_eq_getD_getElem?]; exact (hdep ⟨5, .data⟩ (by simp) rfl 19 _ rfl).1
        have q0 := hx.keep c0
        have q1 := hx.keep c1
        have q2 := hx.keep c2
        have q3 := hx.keep c3
        have q4 := hx.keep c4
        have q5 := hx.keep c5
        have q6 := hx.keep c6
        refine ⟨rfl, itv x, W, ?_, rfl, Ext.refl _⟩
        simp [ev19, q0, q1, q2, q3, q4, q5, q6, execOp, go_sem]
      · refine softR_val 21 _ (by kernel_rfl) rfl rfl ?_
        intro a W hx hout hdep
        have ev20 : a.tmps[20]?.getD undef = itv x := by rw [← Array.getD_eq_getD_getElem?]; exact (hdep ⟨6, .data⟩ (by simp) rfl 20 _ rfl).1
        refine ⟨rfl, .slice (some ⟨W.heap.size, 0, none⟩) 1 1, _, ?_, ⟨_, rfl, heap_alloc_new W _⟩, (Ext.refl W).alloc _⟩
        simp [ev20, execOp, go_sem]
    · have hfull := Lib.hid (show l.take j = l from List.take_of_length_le (by rw [hn.out]; omega))
      rw [hfull.out] at ho
      go_wp2
      go_ret
      exact ⟨_, rfl, ho.out, hx⟩

end Go.Proofs.Ytnocdfmmhnnbeaa

namespace Go.Proofs.Ytnocdfmmhnnbeaa
open Go.ChangeShapes Go.WideShapes Go.ChangeAt Go.RowKit Go.Sort
set_option linter.unusedVariables false
set_option linter.unusedSimpArgs false
attribute [local go_sem] World.cell?_alloc_some

/-- what the slots hold -/
def t8teTab (Am : Option Addr) (k cm : Nat) (m : List It) (y : It) (pb : Nat) (s0 : World) : SoftTab := [(36, fun z9 W => ∃ q, z9 = .slice (some ⟨q, 0, none⟩) 0 0 ∧ s0.heap.size ≤ q ∧ W.heap[q]? = some (.cells #[] 27 (0, 0))),
  (37, fun z9 W => z9 = .slice Am k cm),
  (38, fun z9 W => ∃ q : Value, z9 = q ∧ OwnI s0 W q m),
  (39, fun z9 W => z9 = itv y),
  (40, fun z9 W => ∃ q, z9 = .slice (some ⟨q, 0, none⟩) 1 1 ∧ BoxI W q y)]
theorem t8teTab_mono (Am : Option Addr) (k cm : Nat) (m : List It) (y : It) (pb : Nat) (s0 : World) (Rel : World → World → Prop) (hR : ∀ W W', Rel W W' → Ext W W') : SoftMonoR Rel (t8teTab Am k cm m y pb s0) := by
  intro p hp v W W' h hx
  simp only [t8teTab, List.mem_cons, List.not_mem_nil, or_false] at hp
  rcases hp with rfl | rfl | rfl | rfl | rfl
  all_goals first
    | exact h
    | (obtain ⟨q, h1, h2, h3⟩ := h
       exact ⟨q, h1, h2, by rw [RowKit.Below.block (hR _ _ hx) q (Array.getElem?_eq_some_iff.1 h3).1]; exact h3⟩)
    | (obtain ⟨q, h1, h2⟩ := h
       exact ⟨q, h1, h2.ext (hR _ _ hx)⟩)

theorem OwnI.awayT {w W W' : World} {v : Value} {l : List It} (h : OwnI w W v l) (hk : ∀ g, v.ownBlock = some g → W'.heap[g]? = W.heap[g]?) : OwnI w W' v l := by
  unfold OwnI OwnG at h ⊢
  rcases h with ⟨h1, h2 | ⟨g, cap, cur, h2, h3, h4, h5⟩⟩
  · exact ⟨h1, .inl h2⟩
  · refine ⟨h1, .inr ⟨g, cap, cur, h2, h3, ?_, h5⟩⟩
    rw [hk g (by rw [h2]; rfl)]; exact h4
theorem BoxI.id {W : World} {q : Nat} {x : It} (h : BoxI W q x) (a b : Int) : BoxI ((W.setCell ⟨q, 0, none⟩ (Vu a)).setCell ⟨q, 1, none⟩ (Vu b)) q { x with c := a, k := b } :=
  heap_setCell_same _ _ 1 _ _ _ (heap_setCell_same _ _ 0 _ _ _ h)
set_option maxRecDepth 100000 in
set_option maxHeartbeats 8000000 in
theorem treeTells_walk (A : Option Addr) (n cap : Nat) (l : List It) (x : It) (w : World) (hv : ItS w A l) (hn : l.length = n) (hcp : n ≤ cap) (hb : n ≤ 9223372036854775807) :
    Calls Try.prog 3 #[.slice A n cap, itv x] w fun e w' => e = .returned (.bool true) ∧ Ext w w' := by
  have hc1 := Lib.hid (fun (W : World) (hW : Ext w W) (h : n ≤ 60) => known_ref A n cap l W (hv.ext hW) hn hcp (by omega))
  have hc2 := Lib.hid (fun (W : World) (hW : Ext w W) (h : n ≤ 60) => knownL_any A n cap l W (hv.ext hW) hn (by omega))
  have hc3 := Lib.hid (fun (W : World) (hW : Ext w W) (h : n ≤ 60) => known_tr A n cap l W (hv.ext hW) hn hcp (by omega))
  have hml : (knL l).length ≤ n := hn ▸ knL_len l
  have hkm := Lib.hid (knL_known l)
  clear hn hcp
  go_enter Try.func3, Try.ntmps3
  go_wp2_with fail
  refine (up8_any _).mono ?_
  rintro e w1 ⟨rfl, x1⟩
  have xw1 := Ext.trans ((Ext.refl w).alloc _) x1
  have bx := Lib.hid (BoxI.ext (show BoxI (w.alloc (.cells #[.int .u32 x.c, .int .u32 x.k, .int .u32 x.lc, .int .u32 x.lk, .int .u32 x.rc, .int .u32 x.rk, .int .i32 x.ch] 27)) w.heap.size x from heap_alloc_new w _) x1)
  have hpb := Lib.hid (Nat.le_refl w.heap.size)
  clear x1
  obtain ⟨pb, hpbe⟩ : ∃ pb, w.heap.size = pb := ⟨_, rfl⟩
  rw [hpbe] at bx ⊢
  replace hpb := Lib.hid (show w.heap.size ≤ pb by omega)
  clear hpbe
  by_cases h60 : 60 < n
  · go_wp2
    go_ret
    exact ⟨rfl, xw1⟩
  · go_wp2_with fail
    refine (hc1.out _ xw1 (by omega)).mono ?_
    rintro e w2 ⟨rfl, x2⟩
    go_wp2_with fail
    refine (hc2.out _ (xw1.trans x2) (by omega)).mono ?_
    rintro e w3 ⟨v3, rfl, o3, x3⟩
    obtain ⟨Am, cm, rfl, hkc, hM3⟩ := o3.open
    have xw3 := (xw1.trans x2).trans x3
    have bx0 := bx
    replace bx := Lib.hid ((bx.out.ext x2).ext x3)
    have haw : ∀ q, (Value.slice Am (knL l).length cm).ownBlock = some q → q ≠ pb := fun q hq => by have h1 := (o3.lt q hq).1; have h2 := (bx0.out.ext x2).lt; omega
    clear x2 x3
    generalize knL l = m at *
    obtain ⟨k, hk⟩ : ∃ k, m.length = k := ⟨_, rfl⟩
    rw [hk] at hml hkc o3 haw ⊢
    replace haw := Lib.hid haw
    replace o3 := Lib.hid o3
    replace hk := Lib.hid hk
    have hk60 : k ≤ 60 := by omega
    go_wp2_with fail
    refine (order_tr Am k cm m _ hM3 hkm.out hk.out hkc (by omega)).mono ?_
    rintro e w4 ⟨v4, rfl, o4, x4⟩
    obtain ⟨A4, c4, rfl, _, hO4⟩ := o4.open
    clear o4
    go_wp2_with fail
    refine (order_ref Am k cm m _ (hM3.ext x4) hkm.out hk.out hkc (by omega)).mono ?_
    rintro e w4b ⟨v4b, rfl, o4b, x4b⟩
    obtain ⟨A4b, c4b, rfl, _, hO4b⟩ := o4b.open
    clear o4b
    have hol : (ordW m).length ≤ 60 := by rw [ord_len hkm.out (ordW_is hkm.out), hk.out]; exact hk60
    go_wp2_with fail
    refine (sameO_ref A4 A4b _ _ c4 c4b _ _ _ (hO4.ext x4b) hO4b rfl rfl (by omega) (by omega)).mono ?_
    rintro e w4c ⟨rfl, x4c⟩
    rw [show decide (ordW m = ordW m) = true from decide_eq_true rfl]
    replace x4 := (x4.trans x4b).trans x4c
    clear x4b x4c hO4 hO4b hol
    go_wp2_with fail
    refine (hc3.out _ (xw3.trans x4) (by omega)).mono ?_
    rintro e w5 ⟨rfl, x5⟩
    replace x4 := x4.trans x5
    replace bx := Lib.hid (bx.out.ext x4)
    have hM5 := Lib.hid (hM3.ext x4)
    have x35 := x4
    have hW5 := xw3.trans x4
    clear x4 x5 hM3 xw3 hc1 hc2 hc3 bx0
    have by' := Lib.hid (bx.out.id 4294967295 4294967295)
    have f0 := frozen_of_row w5 pb 0 _ _ bx.out
    have f1 := frozen_of_row w5 pb 1 _ _ bx.out
    have e0 := bx.out.cells.c0
    have e1 := bx.out.cells.c1
    have xw5 := (hW5.setCell hpb.out (Vu 4294967295) (p := ⟨pb, 0, none⟩)).setCell hpb.out (Vu 4294967295) (p := ⟨pb, 1, none⟩)
    obtain ⟨kl, hkl⟩ : ∃ b, knownI l = b := ⟨_, rfl⟩
    rw [hkl]
    have ow1 := OwnI.awayT (W' := w5.setCell ⟨pb, 0, none⟩ (Vu 4294967295)) (o3.out.ext x35) (fun q hq => Below.heap_setCell _ _ _ _ (haw.out q hq))
    have ow2 := OwnI.awayT (W' := (w5.setCell ⟨pb, 0, none⟩ (Vu 4294967295)).setCell ⟨pb, 1, none⟩ (Vu 4294967295)) ow1 (fun q hq => Below.heap_setCell _ _ _ _ (haw.out q hq))
    have hM := Lib.hid (show ItS ((w5.setCell ⟨pb, 0, none⟩ (Vu 4294967295)).setCell ⟨pb, 1, none⟩ (Vu 4294967295)) Am m from by unfold OwnI OwnG at ow2; rw [hk.out] at ow2; exact Row.own ow2)
    clear ow1 ow2
    obtain ⟨y, hy⟩ : ∃ y, { x with c := 4294967295, k := 4294967295 } = y := ⟨_, rfl⟩
    rw [hy] at by'
    obtain ⟨b0, b1, b2, b3, b4, b5, b6⟩ := by'.out.cells
    clear hkl hy hW5 hM5 xw1 haw o3 x35
    have hneq : ∀ W : World, (binOp .neq 4 (.bool kl) (.bool kl)).run Try.prog W = .ok (.bool false) W := fun W => by cases kl <;> simp [go_sem]
    go_wp2_with fail
    generalize (w5.setCell ⟨pb, 0, none⟩ (Vu 4294967295)).setCell ⟨pb, 1, none⟩ (Vu 4294967295) = W5 at *
    clear f0 f1 e0 e1 bx by' hv hneq
    refine wp_soft_frame Ext 5 (t8teTab Am k cm m y pb W5) (by kernel_rfl) (by kernel_rfl) (fun _ _ _ => Ext.trans) ((Ext.refl _).drew) rfl (by show List.Nodup [36, 37, 38, 39, 40]; decide) (by show ∀ d ∈ [36, 37, 38, 39, 40], d < 67; decide) (t8teTab_mono Am k cm m y pb W5 Ext (fun _ _ h => h)) ?_ ⟨?_, ?_, ?_, ?_, ?_, trivial⟩
    · intro W vs hT hR
      match vs, hT with
      | [v0, v1, v2, v3, v4], ⟨e0, e1, e2, e3, e4, _⟩ =>
        simp only [t8teTab, List.map_cons, List.map_nil, List.zip_cons_cons, List.zip_nil_left, putAll, List.setIfInBounds_toArray, List.set_cons_zero, List.set_cons_succ, List.drop_succ_cons, List.drop_zero]
        simp only at e1 e3
        obtain ⟨q0, e0, h0⟩ := e0
        obtain ⟨q2, e2, h2⟩ := e2
        obtain ⟨q4, e4, h4⟩ := e4
        rw [e0, e1, e2, e3, e4]
        clear e0 e1 e2 e3 e4 v0 v1 v2 v3 v4
        have hr7 : ItS W (some ⟨q4, 0, none⟩) [y] := ItS.box h4
        clear hT h0
        go_wp2_with (first
      | (at_builtin
         refine wpList_append_IB (w0 := W5) rfl (.tmp 38) (.tmp 40) rfl _ m rfl h2 hR _ 1 1 [y] rfl rfl hr7 (by rw [hk.out, List.length_cons, List.length_nil]; omega) ?_
         intro v6 w6 o6 x6 g6 e6)
      | fail)
        obtain ⟨A6, c6, rfl, hc6, hI6⟩ := o6.open
        obtain ⟨m6, hm6⟩ : ∃ k, (m ++ [y]).length = k := ⟨_, rfl⟩
        rw [hm6] at hc6 ⊢
        refine (known_ref A6 m6 c6 (m ++ [y]) w6 hI6 hm6 hc6 (by rw [← hm6, List.length_append, hk.out, List.length_cons, List.length_nil]; omega)).mono ?_
        rintro e w7 ⟨rfl, x7⟩
        replace x7 := x6.trans x7
        have d0 := x7.keep b0
        have d1 := x7.keep b1
        have d2 := x7.keep b2
        have d3 := x7.keep b3
        have d4 := x7.keep b4
        have d5 := x7.keep b5
        have d6 := x7.keep b6
        have hE7 := xw5.trans x7
        clear b0 b1 b2 b3 b4 b5 b6 hR h2 h4 hr7 g6 e6 hc6 hI6 hm6 x6
        cases hf : knownI (m ++ [y]) with
        | false =>
          go_wp2
          go_ret
          exact ⟨rfl, hE7⟩
        | true =>
          have hky : knownX m y = true := by rw [known_snoc, Bool.and_eq_true] at hf; exact hf.2
          have hc8 := Lib.hid (fun (W : World) (hW : Ext w7 W) => place_tr Am k cm m y W (hM.out.ext (x7.trans hW)) hkm.out hky hk.out hkc (by omega))
          have hc9 := Lib.hid (fun (W : World) (hW : Ext w7 W) => placeT_ref Am k cm m y W (hM.out.ext (x7.trans hW)) hkm.out hk.out hkc (by omega))
          rw [plc_is hkm.out hky] at hc9
          clear hky hf
          generalize hgP m y = h at *
          obtain ⟨⟨ha, hb⟩, hr⟩ := h
          go_wp2_with fail
          refine (hc8.out _ (Ext.refl _)).mono ?_
          rintro e w8 ⟨rfl, x8⟩
          replace d0 := x8.keep d0
          replace d1 := x8.keep d1
          replace d2 := x8.keep d2
          replace d3 := x8.keep d3
          replace d4 := x8.keep d4
          replace d5 := x8.keep d5
          replace d6 := x8.keep d6
          have hq1 : ∀ W : World, (binOp .eql 25 (.agg #[.int .u32 ha, .int .u32 hb]) (.agg #[.int .u32 ha, .int .u32 hb])).run Try.prog W = .ok (.bool true) W := fun W => by rw [idT_eql]; simp
          have hq2 : ∀ W : World, (binOp .eql 4 (.bool hr) (.bool hr)).run Try.prog W = .ok (.bool true) W := fun W => by cases hr <;> simp [go_sem]
          go_wp2_with fail
          have xa : Ext w8 (w8.alloc (.cells #[.int .u32 ha, .int .u32 hb, .bool hr] 35)) := (Ext.refl _).alloc _
          refine (hc9.out _ (x8.trans xa)).mono ?_
          rintro e w9 ⟨rfl, x9⟩
          have p0 := x9.keep (p := ⟨w8.heap.size, 0, none⟩) (v := Vu ha) (by simp [go_sem])
          have p1 := x9.keep (p := ⟨w8.heap.size, 1, none⟩) (v := Vu hb) (by simp [go_sem])
          have p2 := x9.keep (p := ⟨w8.heap.size, 2, none⟩) (v := .bool hr) (by simp [go_sem])
          have hE9 := ((hE7.trans x8).trans xa).trans x9
          clear d0 d1 d2 d3 d4 d5 d6 x9 xa x8 hc8 hc9
          generalize w8.heap.size = pc at *
          go_wp2
          go_ret
          exact ⟨rfl, hE9.alloc _⟩
    · refine softR_val 36 _ (by kernel_rfl) rfl rfl ?_
      intro a W hx hout hdep
      refine ⟨rfl, .slice (some ⟨W.heap.size, 0, none⟩) 0 0, _, ?_, ⟨_, rfl, hx.size, heap_alloc_new W _⟩, (Ext.refl W).alloc _⟩
      simp [execOp, go_sem]
    · refine softR_val 37 _ (by kernel_rfl) rfl rfl ?_
      intro a W hx hout hdep
      have ev7 : a.tmps[7]?.getD undef = .slice Am k cm := by rw [← Array.getD_eq_getD_getElem?]; exact hout 7 (by show 7 ∉ [36, 37, 38, 39, 40]; decide)
      refine ⟨rfl, .slice Am k cm, W, ?_, rfl, Ext.refl _⟩
      simp [ev7, execOp, go_sem]
    · refine softR_val 38 _ (by kernel_rfl) rfl rfl ?_
      intro a W hx hout hdep
      have tl36 := (hdep ⟨0, .data⟩ (by simp) rfl 36 _ rfl).1
      have ev37 : a.tmps[37]?.getD undef = .slice Am k cm := by rw [← Array.getD_eq_getD_getElem?]; exact (hdep ⟨1, .data⟩ (by simp) rfl 37 _ rfl).1
      obtain ⟨q9, eq9, hq9, hc9⟩ := tl36
      have hs9 : a.eval (.tmp 36) = .slice (some ⟨q9, 0, none⟩) 0 0 := eq9
      have ht9 : a.eval (.tmp 37) = .slice Am k cm := (hdep ⟨1, .data⟩ (by simp) rfl 37 _ rfl).1
      obtain ⟨v9, w9, hrun9, ho9, hx9⟩ := run_append_I0 W5 W 22 q9 m Am k cm hk.out (hM.out.ext hx) hx (by omega) hq9 hc9
      refine ⟨rfl, v9, w9, ?_, ⟨_, rfl, ho9⟩, hx9⟩
      simp only [execOp, resolve, invoke, builtin, Sem.run_bind, Sem.run_pure, Result.andThen_ok, List.map_toArray, List.map_cons, List.map_nil, hs9, ht9, hrun9]
    · refine softR_val 39 _ (by kernel_rfl) rfl rfl ?_
      intro a W hx hout hdep
      have ev3 : a.tmps[3]?.getD undef = .pointer (some ⟨pb, 0, none⟩) := by rw [← Array.getD_eq_getD_getElem?]; exact hout 3 (by show 3 ∉ [36, 37, 38, 39, 40]; decide)
      have q0 := hx.keep b0
      have q1 := hx.keep b1
      have q2 := hx.keep b2
      have q3 := hx.keep b3
      have q4 := hx.keep b4
      have q5 := hx.keep b5
      have q6 := hx.keep b6
      refine ⟨rfl, itv y, W, ?_, rfl, Ext.refl _⟩
      simp [ev3, q0, q1, q2, q3, q4, q5, q6, execOp, go_sem]
    · refine softR_val 40 _ (by kernel_rfl) rfl rfl ?_
      intro a W hx hout hdep
      have ev39 : a.tmps[39]?.getD undef = itv y := by rw [← Array.getD_eq_getD_getElem?]; exact (hdep ⟨3, .data⟩ (by simp) rfl 39 _ rfl).1
      refine ⟨rfl, .slice (some ⟨W.heap.size, 0, none⟩) 1 1, _, ?_, ⟨_, rfl, heap_alloc_new W _⟩, (Ext.refl W).alloc _⟩
      simp [ev39, execOp, go_sem]

end Go.Proofs.Ytnocdfmmhnnbeaa

namespace Go.Proofs.Ytnocdfmmhnnbeaa
open Go.ChangeShapes Go.WideShapes Go.ChangeAt Go.RowKit Go.Sort
set_option linter.unusedVariables false
set_option linter.unusedSimpArgs false

set_option maxRecDepth 100000 in
/-- a slice of structs, opened: enc the cells of one, s how many, good what is told of one -/
theorem structs_open {α : Type} [Inhabited α] {en : α → List Value} {s : Nat} (hs : ∀ x, (en x).length = s) (h0 : 0 < s) {T E : TypeId} (hT : Try.prog.underlying T = some (.slice E)) (ce : Try.prog.cellsOf E = s) {good : α → Prop}
    {H : Type} {enc : TypeId × Value → H} {W : World} {base b0 : Nat} {sp : Nat → Bool} {hd : Bool} {r : Reach} {v : Value} {d : DataW H} {p : List MemPlace} 
    (hel : ∀ (fuel : Nat) (cs : List Value) (x : DataW H × List MemPlace), cs.length = s → DataW.trod enc Try.prog W base sp hd fuel E cs = some x → ∃ q, good q ∧ en q = cs)
    (hv : Value.okWide Try.prog W r b0 T v) (h : DataW.Trod enc Try.prog W base sp hd T v d p) :
    ∃ (A : Option Addr) (n cap : Nat) (l : List α), v = .slice A n cap ∧ l.length = n ∧ n ≤ cap ∧ n ≤ maxLen ∧ Row W A (flat en l) ∧ ∀ x ∈ l, good x := by
  obtain ⟨a, len, cap, rfl⟩ := okWide_slice hT hv
  obtain ⟨fuel, hf⟩ := h
  have hf' : DataW.trod enc Try.prog W base sp hd fuel T [.slice a len cap] = some (d, p) := hf
  rcases Go.Deep.open_slice hT hf' with ⟨e, _⟩ | ⟨a', len', cap', m, n, D, Pl, e, _, hl, hm, hmm, _, hi⟩
  · injection e with e
    injection e with e1 e2 e3
    subst e1
    subst e2
    subst e3
    exact ⟨_, _, _, [], rfl, rfl, Nat.le_refl _, by omega, Row.nil _ _, by simp⟩
  · injection e with e
    injection e with e1 e2 e3
    subst e1
    subst e2
    subst e3
    have hml : len ≤ m := by rw [hmm]; split <;> omega
    have hcell : ∀ i, i < len → ∃ q : α, good q ∧ ∀ j u, (en q)[j]? = some u → W.cell? (a'.add (i * s + j)) = some u := by
      intro i hil
      obtain ⟨cs', h1, h2⟩ := hi i (by omega)
      rw [ce] at h1
      obtain ⟨_, hlen, hc⟩ := World.cells?_some h1
      obtain ⟨q, hq, hqc⟩ := hel _ _ _ hlen h2
      refine ⟨q, hq, fun j u hu => ?_⟩
      have hj : j < s := by
        rcases Nat.lt_or_ge j s with g | g
        · exact g
        · rw [List.getElem?_eq_none (by rw [hs]; exact g)] at hu; cases hu
      have e0 := hc j hj
      rw [Go.Deep.add_add] at e0
      rw [e0, ← hqc]
      exact hu
    obtain ⟨q, hq⟩ := Go.Deep.choose_lt hcell
    refine ⟨some a', len, cap, (List.range len).map q, rfl, by simp, hl, by omega, ?_, ?_⟩
    · intro hp
      have hlen : 0 < len := by
        rw [flat_len hs] at hp
        simp at hp
        rcases Nat.eq_zero_or_pos len with z | z
        · rw [z] at hp; simp at hp
        · exact z
      obtain ⟨u0, hu0⟩ : ∃ u, (en (q 0))[0]? = some u := ⟨_, List.getElem?_eq_getElem (by rw [hs]; exact h0)⟩
      have g0 := (hq 0 hlen).2 0 u0 hu0
      obtain ⟨b, o, spot⟩ := a'
      have hspot : spot = none := by simpa [Addr.add] using World.cell?_spot g0
      subst hspot
      refine ⟨b, o, rfl, fun j u hu => ?_⟩
      have hj : j < len * s := by
        rcases Nat.lt_or_ge j (len * s) with k | k
        · exact k
        · rw [List.getElem?_eq_none (by rw [flat_len hs]; simpa using k)] at hu; cases hu
      have hdiv : j / s < len := Nat.div_lt_of_lt_mul (by rw [Nat.mul_comm]; exact hj)
      have hget : ((List.range len).map q)[j / s]? = some (q (j / s)) := by
        rw [List.getElem?_map, List.getElem?_range hdiv]; rfl
      have ej : j = j / s * s + j % s := by rw [Nat.mul_comm]; exact (Nat.div_add_mod j s).symm
      rw [ej, flat_at hs hget (Nat.mod_lt _ h0)] at hu
      have := (hq (j / s) hdiv).2 (j % s) u hu
      rw [add_at] at this
      rw [ej]; exact this
    · intro x hx
      obtain ⟨i, hi', rfl⟩ := List.mem_map.1 hx
      exact (hq i (List.mem_range.1 hi')).1

set_option maxRecDepth 100000 in
/-- an Id's cells, opened -/
theorem id_cells {H : Type} {enc : TypeId × Value → H} {W : World} {base : Nat} {sp : Nat → Bool} {hd : Bool} {fuel : Nat} {v0 v1 : Value} {x : DataW H × List MemPlace} (h : DataW.trod enc Try.prog W base sp hd fuel 25 [v0, v1] = some x) :
    ∃ a b : Int, v0 = Vu a ∧ v1 = Vu b ∧ 0 ≤ a ∧ a ≤ 4294967295 ∧ 0 ≤ b ∧ b ≤ 4294967295 := by
  obtain ⟨xs, k, hk, hxy, _, hxl, hfd⟩ := DataW.trod_struct Try.underlying25 h
  match xs, hxl with
  | [y0, y1], _ =>
    have g0 := hfd 0 _ rfl
    have g1 := hfd 1 _ rfl
    have cu : Try.prog.cellsOf 23 = 1 := by kernel_rfl
    simp [cu] at g0 g1
    obtain ⟨a, t0, _, wa⟩ := DataW.trod_int Try.underlying23 g0
    obtain ⟨b, t1, _, wb⟩ := DataW.trod_int Try.underlying23 g1
    simp at t0 t1
    have ba := bounds_u32 wa
    have bb := bounds_u32 wb
    exact ⟨a, b, t0, t1, ba.1, ba.2, bb.1, bb.2⟩

end Go.Proofs.Ytnocdfmmhnnbeaa

namespace Go.Proofs.Ytnocdfmmhnnbeaa
open Go.ChangeShapes Go.WideShapes Go.ChangeAt Go.RowKit Go.Sort
set_option linter.unusedVariables false
set_option linter.unusedSimpArgs false
attribute [local go_sem] World.cell?_alloc_some

theorem drop_atI {α : Type} {l : List α} {k : Nat} {p : α} (h : l[k]? = some p) : l.drop k = p :: l.drop (k + 1) := by
  obtain ⟨hk, e⟩ := List.getElem?_eq_some_iff.1 h
  rw [List.drop_eq_getElem_cons hk, e]
theorem tog_on {l : List It} {k : Nat} {x y : It} (hx : l[k]? = some x) (hy : l[k + 1]? = some y) : tog (l.drop k) = if onI x y then tog (l.drop (k + 1)) + 1 else 1 := by
  rw [drop_atI hx, tog, drop_atI hy]; rfl
theorem tog_last {l : List It} {k : Nat} {x : It} (hx : l[k]? = some x) (hl : l.length ≤ k + 1) : tog (l.drop k) = 1 := by
  rw [drop_atI hx, List.drop_eq_nil_of_le hl]; rfl
def wfIs (l : List It) : Prop := ∀ x ∈ l, wfI x
theorem wfIs.at {l : List It} (h : wfIs l) {k : Nat} {x : It} (hx : l[k]? = some x) : wfI x := h x (List.mem_of_getElem? hx)

/-- the cells of one, in whatever world has grown from this one -/
structure ItG (w : World) (b o : Nat) (x : It) : Prop where
  c0 : ∀ d os, (grow (redrawn w d) os).cell? ⟨b, o, none⟩ = some (Vu x.c)
  c1 : ∀ d os, (grow (redrawn w d) os).cell? ⟨b, o + 1, none⟩ = some (Vu x.k)
  c2 : ∀ d os, (grow (redrawn w d) os).cell? ⟨b, o + 2, none⟩ = some (Vu x.lc)
  c3 : ∀ d os, (grow (redrawn w d) os).cell? ⟨b, o + 3, none⟩ = some (Vu x.lk)
  c4 : ∀ d os, (grow (redrawn w d) os).cell? ⟨b, o + 4, none⟩ = some (Vu x.rc)
  c5 : ∀ d os, (grow (redrawn w d) os).cell? ⟨b, o + 5, none⟩ = some (Vu x.rk)
  c6 : ∀ d os, (grow (redrawn w d) os).cell? ⟨b, o + 6, none⟩ = some (.int .i32 x.ch)
theorem ItC.regrown {w : World} {b o : Nat} {x : It} (h : ItC w b o x) : ItG w b o x := ⟨cell_regrown h.c0, cell_regrown h.c1, cell_regrown h.c2, cell_regrown h.c3, cell_regrown h.c4, cell_regrown h.c5, cell_regrown h.c6⟩

end Go.Proofs.Ytnocdfmmhnnbeaa

namespace Go.Proofs.Ytnocdfmmhnnbeaa
open Go.ChangeShapes Go.WideShapes Go.ChangeAt Go.RowKit Go.Sort
set_option linter.unusedVariables false
set_option linter.unusedSimpArgs false

instance : Inhabited It := ⟨⟨0, 0, 0, 0, 0, 0, 0⟩⟩
instance : Inhabited Rn := ⟨⟨0, 0, 0, 0, 0, 0, []⟩⟩
theorem bounds_i32 {a : Int} (h : (Lit.int .i32 a).wf = true) : -2147483648 ≤ a ∧ a ≤ 2147483647 := by
  simpa [Lit.wf, IntKind.min, IntKind.max, IntKind.signed, IntKind.bits] using h
theorem list7 {α : Type} {l : List α} (h : l.length = 7) : ∃ a b c d e f g, l = [a, b, c, d, e, f, g] := by
  match l, h with
  | [a, b, c, d, e, f, g], _ => exact ⟨a, b, c, d, e, f, g, rfl⟩
theorem list4 {α : Type} {l : List α} (h : l.length = 4) : ∃ a b c d, l = [a, b, c, d] := by
  match l, h with
  | [a, b, c, d], _ => exact ⟨a, b, c, d, rfl⟩

set_option maxRecDepth 100000 in
theorem item_cells {H : Type} {enc : TypeId × Value → H} {W : World} {base : Nat} {sp : Nat → Bool} {hd : Bool} (fuel : Nat) (cs : List Value) (x : DataW H × List MemPlace) (hl : cs.length = 7) (h : DataW.trod enc Try.prog W base sp hd fuel 27 cs = some x) :
    ∃ q, wfI q ∧ encI q = cs := by
  obtain ⟨v0, v1, v2, v3, v4, v5, v6, rfl⟩ := list7 hl
  obtain ⟨xs, k, hk, hxy, _, hxl, hfd⟩ := DataW.trod_struct Try.underlying27 h
  obtain ⟨y0, y1, y2, y3, rfl⟩ := list4 hxl
  have g0 := hfd 0 _ rfl
  have g1 := hfd 1 _ rfl
  have g2 := hfd 2 _ rfl
  have g3 := hfd 3 _ rfl
  have cu : Try.prog.cellsOf 21 = 1 := by kernel_rfl
  have ci : Try.prog.cellsOf 25 = 2 := by kernel_rfl
  simp [cu, ci] at g0 g1 g2 g3
  obtain ⟨a, b, rfl, rfl, a1, a2, b1, b2⟩ := id_cells g0
  obtain ⟨c, d, rfl, rfl, c1, c2, d1, d2⟩ := id_cells g1
  obtain ⟨e, f, rfl, rfl, e1, e2, f1, f2⟩ := id_cells g2
  obtain ⟨z, t0, _, wz⟩ := DataW.trod_int Try.underlying21 g3
  simp at t0
  subst t0
  have bz := bounds_i32 wz
  exact ⟨⟨a, b, c, d, e, f, z⟩, ⟨a1, a2, b1, b2, c1, c2, d1, d2, e1, e2, f1, f2, bz.1, bz.2⟩, rfl⟩
set_option maxRecDepth 100000 in
theorem items_open {H : Type} {enc : TypeId × Value → H} {W : World} {base b0 : Nat} {sp : Nat → Bool} {hd : Bool} {r : Reach} {v : Value} {d : DataW H} {p : List MemPlace} (hv : Value.okWide Try.prog W r b0 22 v) (h : DataW.Trod enc Try.prog W base sp hd 22 v d p) :
    ∃ (A : Option Addr) (n cap : Nat) (l : List It), v = .slice A n cap ∧ l.length = n ∧ n ≤ cap ∧ n ≤ maxLen ∧ ItS W A l ∧ wfIs l :=
  structs_open encI_len (by omega) Try.underlying22 (by kernel_rfl) item_cells hv h
end Go.Proofs.Ytnocdfmmhnnbeaa

namespace Go.Proofs.Ytnocdfmmhnnbeaa
open Go.ChangeShapes Go.WideShapes Go.ChangeAt Go.RowKit Go.Sort
set_option linter.unusedVariables false
set_option linter.unusedSimpArgs false

theorem pick8_any (n : Int) (k : Nat) (w : World) (hk : 0 < k) (hk2 : k ≤ 3000) : Calls Try.prog 15 #[Vi n, Vi k] w fun e w' => (∃ r : Nat, r < k ∧ e = .returned (Vi r)) ∧ w = w' := by
  have h1 : Int.tmod n k < k := Int.tmod_lt_of_pos n (by omega)
  have h2 : -(k : Int) < Int.tmod n k := Int.lt_tmod_of_pos n (by omega)
  have h3 : ((k : Int) == 0) = false := by rw [beq_eq_false_iff_ne]; omega
  by_cases hneg : Int.tmod n k < 0
  · go_enter Try.func15, Try.ntmps15
    go_wp2
    go_ret
    exact ⟨⟨(Int.tmod n k + k).toNat, by omega, ret_i64 (by omega)⟩, rfl⟩
  · go_enter Try.func15, Try.ntmps15
    go_wp2
    go_ret
    exact ⟨⟨(Int.tmod n k).toNat, by omega, ret_i64 (by omega)⟩, rfl⟩

end Go.Proofs.Ytnocdfmmhnnbeaa

namespace Go.Proofs.Ytnocdfmmhnnbeaa
open Go.ChangeShapes Go.WideShapes Go.ChangeAt Go.RowKit Go.Sort
set_option linter.unusedVariables false
set_option linter.unusedSimpArgs false

theorem OdS.take {w : World} {A : Option Addr} {l : List I2} (h : OdS w A l) (k : Nat) : OdS w A (l.take k) := by
  unfold OdS; rw [flat_take encO_len]; exact Row.take h _
theorem OdS.cut {w : World} {A : Option Addr} {l : List I2} (h : OdS w A l) {n cap k : Nat} (hn : l.length = n) (hc : n ≤ cap) (hk : k ≤ n) : OdS w (cutA A cap k 2) (l.drop k) := by
  unfold OdS; rw [flat_drop encO_len]; exact Row.cut h (n := n) (by rw [flat_len encO_len, hn]) hc hk
theorem fromO (A : Option Addr) (n cap k : Nat) (h1 : k ≤ n) (z : Int) (hz : z = k) (W : World) : (Instr.slice 32 (.slice A n cap) (some (.int .i64 z)) none none).run Try.prog W = .ok (.slice (cutA A cap k 2) (n - k) (cap - k)) W := by
  subst hz
  obtain ⟨i, hi, hz0, hz1, hz2⟩ := info_parts infoO
  have := run_from Try.underlying32 hi A n cap k W (by omega) (by omega)
  rw [hz1] at this
  exact this
theorem uptoO (A : Option Addr) (n cap k : Nat) (h1 : k ≤ cap) (z : Int) (hz : z = k) (W : World) : (Instr.slice 32 (.slice A n cap) none (some (.int .i64 z)) none).run Try.prog W = .ok (.slice A k cap) W := by
  subst hz
  obtain ⟨i, hi, hz0, hz1, hz2⟩ := info_parts infoO
  exact run_upto Try.underlying32 hi A n cap k W (by omega) (by omega)
/-- append to an empty slice of no room, wherever it points -/
theorem appendO_base {P : Program} (w : World) (t ty e : TypeId) (i : TypeInfo) (ht : P.underlying t = some (.slice e)) (hi : P.info? e = some i) (base : Option Addr) (A : Option Addr) (m c : Nat) (hm : 0 < m)
    (hfit : Builtin.nextslicecap m 0 * i.bytes ≤ 281474976710656) (h63 : (m : Int) ≤ 9223372036854775807) :
    (Builtin.append_ #[t, t] ty #[.slice base 0 0, .slice A m c]).run P w = (Builtin.append_ #[t, t] ty #[.slice none 0 0, .slice A m c]).run P w := by
  have h48' : ¬ (281474976710656 < Builtin.nextslicecap m 0 * i.bytes) := by omega
  have h63' : ¬ (9223372036854775807 < (m : Int)) := by omega
  have hm0 : ¬ (m ≤ 0) := by omega
  have hm1 : ¬ (m = 0) := by omega
  cases base with
  | none => rfl
  | some a =>
    simp [Builtin.append_, run_underlying ht, sizeOf, typeInfo, hi, Builtin.lenOf, hm1, h48', h63', Builtin.firstCells, loadCells, loadCellsFrom]
theorem run_append_O0 (w0 w : World) (ty : TypeId) (q : Nat) (l : List I2) (A : Option Addr) (m c : Nat) (hm : l.length = m) (hr : OdS w A l) (hx : Ext w0 w) (hb : m ≤ 5026338869833) (hq : w0.heap.size ≤ q) (hqc : w.heap[q]? = some (.cells #[] 25 (0, 0))) :
    ∃ v' w', (Builtin.append_ #[32, 32] ty #[.slice (some ⟨q, 0, none⟩) 0 0, .slice A m c]).run Try.prog w = .ok v' w' ∧ OwnO w0 w' v' l ∧ Ext w w' := by
  obtain ⟨i, hi, hz0, hz1, hz2⟩ := info_parts infoO
  subst hm
  obtain ⟨v', w', hrun, h2, h3, h4⟩ := run_append_rowB (P := Try.prog) w w0.heap.size 32 ty 25 i _ 2 8 Try.underlying32 hi hz0 hz1 hz2 rfl (by omega) (.slice none 0 0) 0 [] (World.ownsRow_nil w _ _ _) A l.length c _ (flat_len encO_len l) hr (flat_one_cell encO_one l)
    (by unfold maxLen; omega) (by omega) hx.size
  rcases Nat.eq_zero_or_pos l.length with h0 | h0
  · obtain rfl : l = [] := List.eq_nil_of_length_eq_zero h0
    refine ⟨.slice (some ⟨q, 0, none⟩) 0 0, w, ?_, ⟨by simp [flat], .inr ⟨q, 0, #[], rfl, hq, hqc, Nat.le_refl _, by unfold maxLen; omega, by simp, by simp [flat]⟩⟩, Ext.refl _⟩
    cases A <;> simp [Builtin.append_, run_underlying Try.underlying32, sizeOf, typeInfo, hi, Builtin.lenOf, Builtin.firstCells, storeCells, loadCells, loadCellsFrom]
  · refine ⟨v', w', ?_, ?_, ?_⟩
    · rw [appendO_base w _ _ _ i Try.underlying32 hi _ A l.length c h0 ?_ (by omega)]
      · exact hrun
      · rw [hz2]
        have : Builtin.nextslicecap l.length 0 ≤ l.length := by
          unfold Builtin.nextslicecap
          rw [if_pos (by omega)]
          omega
        omega
    · unfold OwnO OwnG
      have := h2
      rw [Nat.zero_add, List.nil_append] at this
      exact this
    · exact Ext.grown (Ext.refl w) (v := .slice none 0 0) h3 (fun k hk => by cases hk)

end Go.Proofs.Ytnocdfmmhnnbeaa

namespace Go.Proofs.Ytnocdfmmhnnbeaa
open Go.ChangeShapes Go.WideShapes Go.ChangeAt Go.RowKit Go.Sort
set_option linter.unusedVariables false
set_option linter.unusedSimpArgs false
attribute [local go_sem] World.cell?_alloc_some

/-- what the slots hold -/
def t8tbA (Am : Option Addr) (k cm : Nat) (m : List It) (y : It) (px : Nat) (s0 : World) : SoftTab := [(63, fun z9 W => ∃ q, z9 = .slice (some ⟨q, 0, none⟩) 0 0 ∧ s0.heap.size ≤ q ∧ W.heap[q]? = some (.cells #[] 27 (0, 0))),
  (64, fun z9 W => z9 = .slice Am k cm),
  (65, fun z9 W => ∃ q : Value, z9 = q ∧ OwnI s0 W q m),
  (66, fun z9 W => z9 = itv y),
  (67, fun z9 W => ∃ q, z9 = .slice (some ⟨q, 0, none⟩) 1 1 ∧ BoxI W q y)]
theorem t8tbA_mono (Am : Option Addr) (k cm : Nat) (m : List It) (y : It) (px : Nat) (s0 : World) (Rel : World → World → Prop) (hR : ∀ W W', Rel W W' → Ext W W') : SoftMonoR Rel (t8tbA Am k cm m y px s0) := by
  intro p hp v W W' h hx
  simp only [t8tbA, List.mem_cons, List.not_mem_nil, or_false] at hp
  rcases hp with rfl | rfl | rfl | rfl | rfl
  all_goals first
    | exact h
    | (obtain ⟨q, h1, h2, h3⟩ := h
       exact ⟨q, h1, h2, by rw [RowKit.Below.block (hR _ _ hx) q (Array.getElem?_eq_some_iff.1 h3).1]; exact h3⟩)
    | (obtain ⟨q, h1, h2⟩ := h
       exact ⟨q, h1, h2.ext (hR _ _ hx)⟩)
/-- what the slots hold -/
def t8tbB (A4 : Option Addr) (k c4 r : Nat) (O : List I2) (ia ib : Int) (pi : Nat) (s0 : World) : SoftTab := [(75, fun z9 W => ∃ q, z9 = .slice (some ⟨q, 0, none⟩) 0 0 ∧ s0.heap.size ≤ q ∧ W.heap[q]? = some (.cells #[] 25 (0, 0))),
  (76, fun z9 W => z9 = .slice A4 k c4),
  (77, fun z9 W => z9 = Vi (r : Int)),
  (78, fun z9 W => z9 = .slice A4 r c4),
  (79, fun z9 W => ∃ q : Value, z9 = q ∧ OwnO s0 W q (O.take r)),
  (80, fun z9 W => z9 = .agg #[.int .u32 ia, .int .u32 ib]),
  (81, fun z9 W => ∃ q, z9 = .slice (some ⟨q, 0, none⟩) 1 1 ∧ OdS W (some ⟨q, 0, none⟩) [(ia, ib)])]
theorem t8tbB_mono (A4 : Option Addr) (k c4 r : Nat) (O : List I2) (ia ib : Int) (pi : Nat) (s0 : World) (Rel : World → World → Prop) (hR : ∀ W W', Rel W W' → Ext W W') : SoftMonoR Rel (t8tbB A4 k c4 r O ia ib pi s0) := by
  intro p hp v W W' h hx
  simp only [t8tbB, List.mem_cons, List.not_mem_nil, or_false] at hp
  rcases hp with rfl | rfl | rfl | rfl | rfl | rfl | rfl
  all_goals first
    | exact h
    | (obtain ⟨q, h1, h2, h3⟩ := h
       exact ⟨q, h1, h2, by rw [RowKit.Below.block (hR _ _ hx) q (Array.getElem?_eq_some_iff.1 h3).1]; exact h3⟩)
    | (obtain ⟨q, h1, h2⟩ := h
       exact ⟨q, h1, h2.ext (hR _ _ hx)⟩)

theorem BoxI.newT (W : World) (x : It) : BoxI (W.alloc (.cells #[.int .u32 x.c, .int .u32 x.k, .int .u32 x.lc, .int .u32 x.lk, .int .u32 x.rc, .int .u32 x.rk, .int .i32 x.ch] 27)) W.heap.size x := heap_alloc_new W _
theorem BoxI.lefts {W : World} {q : Nat} {c k lc lk rc rk ch : Int} (h : BoxI W q ⟨c, k, lc, lk, rc, rk, ch⟩) (a b : Int) : BoxI ((W.setCell ⟨q, 2, none⟩ (Vu a)).setCell ⟨q, 3, none⟩ (Vu b)) q ⟨c, k, a, b, rc, rk, ch⟩ :=
  heap_setCell_same _ _ 3 _ _ _ (heap_setCell_same _ _ 2 _ _ _ h)
theorem BoxI.rights {W : World} {q : Nat} {c k lc lk rc rk ch : Int} (h : BoxI W q ⟨c, k, lc, lk, rc, rk, ch⟩) (a b : Int) : BoxI ((W.setCell ⟨q, 4, none⟩ (Vu a)).setCell ⟨q, 5, none⟩ (Vu b)) q ⟨c, k, lc, lk, a, b, ch⟩ :=
  heap_setCell_same _ _ 5 _ _ _ (heap_setCell_same _ _ 4 _ _ _ h)
theorem BoxI.thawT {W : World} {q : Nat} {x : It} (h : BoxI W q x) (j : Nat) : W.frozen? ⟨q, j, none⟩ = false := frozen_of_row W q j _ _ h

set_option maxRecDepth 100000 in
set_option maxHeartbeats 16000000 in
theorem treeBetween_walk (A : Option Addr) (n cap : Nat) (l : List It) (z ia ib : Int) (w : World) (hv : ItS w A l) (hn : l.length = n) (hb : n ≤ 5026338869800) :
    Calls Try.prog 5 #[.slice A n cap, Vi z, idv ia ib] w fun e w' => e = .returned (.bool true) ∧ Ext w w' := by
  have hc2 := Lib.hid (fun (W : World) (hW : Ext w W) => knownL_any A n cap l W (hv.ext hW) hn hb)
  have hml : (knL l).length ≤ n := hn ▸ knL_len l
  have hkm := Lib.hid (knL_known l)
  clear hn hv
  go_enter Try.func5, Try.ntmps5
  go_wp2_with fail
  refine (up8_any _).mono ?_
  rintro e w1 ⟨rfl, x1⟩
  have i0 := x1.keep (p := ⟨w.heap.size, 0, none⟩) (v := Vu ia) (by simp [go_sem])
  have i1 := x1.keep (p := ⟨w.heap.size, 1, none⟩) (v := Vu ib) (by simp [go_sem])
  have xw1 := ((Ext.refl w).alloc (.cells #[.int .u32 ia, .int .u32 ib] 25)).trans x1
  clear x1
  generalize w.heap.size = pi at *
  go_wp2_with fail
  refine (hc2.out _ xw1).mono ?_
  rintro e w2 ⟨v2, rfl, o2, x2⟩
  obtain ⟨Am, cm, rfl, hkc, hM2⟩ := o2.open
  replace i0 := x2.keep i0
  replace i1 := x2.keep i1
  have xw2 := xw1.trans x2
  clear xw1 x2 o2 hc2
  have hIs := Lib.hid (ordW_is hkm.out)
  have hOl := ord_len hkm.out hIs.out
  have hord0 := Lib.hid (fun (c k : Nat) (W : World) (hW : Ext w2 W) (hk : (knL l).length = k) (hkc : k ≤ c) (hb : k ≤ 5026338869800) => order_tr Am k c (knL l) W (hM2.ext hW) hkm.out hk hkc hb)
  generalize knL l = m at *
  generalize ordW m = O at *
  obtain ⟨k, hk⟩ : ∃ k, m.length = k := ⟨_, rfl⟩
  rw [hk] at hml hkc hOl ⊢
  replace hk := Lib.hid hk
  replace hM2 := Lib.hid hM2
  go_wp2_with fail
  refine (hord0.out cm k _ (Ext.refl _) hk.out hkc (by omega)).mono ?_
  rintro e w3 ⟨v3, rfl, o3, x3⟩
  obtain ⟨A4, c4, rfl, hkc4, hO3⟩ := o3.open
  rw [hOl] at hkc4 ⊢
  replace i0 := x3.keep i0
  replace i1 := x3.keep i1
  have xw3 := xw2.trans x3
  have hM3 := Lib.hid (hM2.out.ext x3)
  replace hO3 := Lib.hid hO3
  replace hOl := Lib.hid hOl
  clear x3 o3 xw2 hM2 hord0
  have hkk : ((k : Int) == (k : Int)) = true := by simp
  have hkk2 : ((k : Int) != (k : Int)) = false := by simp
  by_cases h60 : 60 < k
  · go_wp2
    go_ret
    exact ⟨by simp, xw3⟩
  · have hk60 : k ≤ 60 := by omega
    have hw1 : wrap64 ((k : Int) + 1) = (k : Int) + 1 := w64_in (by omega) (by omega)
    have hpk : ∀ W, Calls Try.prog 15 #[Vi z, Vi ((k : Int) + 1)] W fun e w' => (∃ r : Nat, r < k + 1 ∧ e = .returned (Vi (r : Int))) ∧ W = w' := fun W => pick8_any z (k + 1) W (by omega) (by omega)
    go_wp2_with fail
    refine (hpk _).mono ?_
    rintro e w4 ⟨⟨r, hr, rfl⟩, rfl⟩
    clear hpk
    have hrk : r ≤ k := by omega
    obtain ⟨la, lb, hl0, hl1⟩ : ∃ la lb : Int, (r = 0 → la = 0 ∧ lb = 0) ∧ (∀ j x, r = j + 1 → O[j]? = some x → x = (la, lb)) := by
      rcases Nat.eq_zero_or_pos r with e | e
      · exact ⟨0, 0, fun _ => ⟨rfl, rfl⟩, fun j x hj => by omega⟩
      · obtain ⟨j, rfl⟩ : ∃ j, r = j + 1 := ⟨r - 1, by omega⟩
        have hjo : j < O.length := by rw [hOl.out]; omega
        refine ⟨(O[j]).1, (O[j]).2, fun e => by omega, fun i x hi hx => ?_⟩
        obtain rfl : j = i := by omega
        rw [List.getElem?_eq_getElem hjo] at hx
        injection hx with hx
        exact hx.symm
    obtain ⟨ra, rb, hr0, hr1⟩ : ∃ ra rb : Int, (r = k → ra = 0 ∧ rb = 0) ∧ (∀ x, O[r]? = some x → x = (ra, rb)) := by
      rcases Nat.lt_or_ge r k with e | e
      · have hjo : r < O.length := by rw [hOl.out]; omega
        refine ⟨(O[r]).1, (O[r]).2, fun e => by omega, fun x hx => ?_⟩
        rw [List.getElem?_eq_getElem hjo] at hx
        injection hx with hx
        exact hx.symm
      · refine ⟨0, 0, fun _ => ⟨rfl, rfl⟩, fun x hx => ?_⟩
        rw [List.getElem?_eq_none (by rw [hOl.out]; exact e)] at hx
        cases hx
    have b5 := BoxI.newT w3 ⟨ia, ib, 0, 0, 0, 0, 97⟩
    have x5 := (Ext.refl w3).alloc (.cells #[.int .u32 ia, .int .u32 ib, .int .u32 0, .int .u32 0, .int .u32 0, .int .u32 0, .int .i32 97] 27)
    have hlo := Nat.le_refl w3.heap.size
    replace b5 := Lib.hid b5
    replace x5 := Lib.hid x5
    go_upto_if 47 with fail
    generalize w3.alloc (.cells #[.int .u32 ia, .int .u32 ib, .int .u32 0, .int .u32 0, .int .u32 0, .int .u32 0, .int .i32 97] 27) = w5 at *
    obtain ⟨px, hpx⟩ : ∃ px, w3.heap.size = px := ⟨_, rfl⟩
    rw [hpx] at b5 ⊢
    replace hpx := Lib.hid (show w3.heap.size ≤ px by omega)
    clear hlo
    go_cut [11] (fun s wx => s = .pointer (some ⟨px, 0, none⟩) ∧ Hid (BoxI wx px ⟨ia, ib, la, lb, 0, 0, 97⟩) ∧ Hid (Ext w3 wx))
    case first =>
      have f2 := b5.out.thawT 2
      have f3 := b5.out.thawT 3
      obtain ⟨e0, e1, e2, e3, e4, e5, e6⟩ := b5.out.cells
      rcases Nat.eq_zero_or_pos r with e | e
      · obtain ⟨rfl, rfl⟩ := hl0 e
        have hrz : decide (0 < r) = false := by rw [decide_eq_false_iff_not]; omega
        clear e hl0 hl1 hr0 hr1 e0 e1 e2 e3 e4 e5 e6
        rw [hrz]
        go_wp2_with fail
        go_meet
        exact ⟨rfl, b5, x5⟩
      · have hrz : decide (0 < r) = true := by rw [decide_eq_true_iff]; omega
        have hrj : r = (r - 1) + 1 := by omega
        obtain ⟨bo, oo, xo, hA, hp, c0, c1⟩ := (hO3.out.ext x5.out).at (k := r - 1) (by rw [hOl.out]; omega)
        obtain rfl := hl1 (r - 1) xo hrj hp
        have hj1 : (0 : Int) ≤ (r : Int) - 1 := by omega
        have hj2 : (r : Int) - 1 < (k : Int) := by omega
        have hwj : wrap64 ((r : Int) - 1) = (r : Int) - 1 := w64_in (by omega) (by omega)
        have hwn : ((r : Int) - 1).toNat = r - 1 := by omega
        have bS := Lib.hid (b5.out.lefts la lb)
        have xS := Lib.hid ((x5.out.setCell hpx.out (Vu la) (p := ⟨px, 2, none⟩)).setCell hpx.out (Vu lb) (p := ⟨px, 3, none⟩))
        simp only at c0 c1
        clear hp hrj hl0 hl1 hr0 hr1
        subst hA
        rw [hrz]
        go_wp2_with fail
        go_meet
        exact ⟨rfl, bS, xS⟩
    case rest =>
      obtain ⟨rfl, b6, x6⟩ := hcut
      clear b5 x5 w5
      go_upto_if 57 with fail
      go_cut [11] (fun s wx => s = .pointer (some ⟨px, 0, none⟩) ∧ Hid (BoxI wx px ⟨ia, ib, la, lb, ra, rb, 97⟩) ∧ Hid (Ext w3 wx))
      case first =>
        have f4 := b6.out.thawT 4
        have f5 := b6.out.thawT 5
        obtain ⟨e0, e1, e2, e3, e4, e5, e6⟩ := b6.out.cells
        rcases Nat.lt_or_ge r k with e | e
        · have hrz : decide (r < k) = true := by rw [decide_eq_true_iff]; omega
          have hj2 : (r : Int) < (k : Int) := by omega
          have hr00 : (0 : Int) ≤ (r : Int) := by omega
          obtain ⟨bo, oo, xo, hA, hp, c0, c1⟩ := (hO3.out.ext x6.out).at (k := r) (by rw [hOl.out]; omega)
          obtain rfl := hr1 xo hp
          have bS := Lib.hid (b6.out.rights ra rb)
          have xS := Lib.hid ((x6.out.setCell hpx.out (Vu ra) (p := ⟨px, 4, none⟩)).setCell hpx.out (Vu rb) (p := ⟨px, 5, none⟩))
          simp only at c0 c1
          clear hp hl0 hl1 hr0 hr1
          subst hA
          rw [hrz]
          go_wp2_with fail
          go_meet
          exact ⟨rfl, bS, xS⟩
        · obtain ⟨rfl, rfl⟩ := hr0 (by omega)
          have hrz : decide (r < k) = false := by rw [decide_eq_false_iff_not]; omega
          clear e hl0 hl1 hr0 hr1
          rw [hrz]
          go_wp2_with fail
          go_meet
          exact ⟨rfl, b6, x6⟩
      case rest =>
        obtain ⟨rfl, b7, x7⟩ := hcut
        clear b6 x6
        have hM := Lib.hid (hM3.out.ext x7.out)
        have hO7 := Lib.hid (hO3.out.ext x7.out)
        replace i0 := x7.out.keep i0
        replace i1 := x7.out.keep i1
        have xw5 := xw3.trans x7.out
        clear hM3 hO3 x7 xw3
        obtain ⟨y, hy⟩ : ∃ y, (⟨ia, ib, la, lb, ra, rb, 97⟩ : It) = y := ⟨_, rfl⟩
        rw [hy] at b7
        have hbet := Lib.hid (fun (h : knownI (m ++ [y]) = true) => show ordW (m ++ [y]) = O.take r ++ (ia, ib) :: O.drop r by
          have := between_is (k := r) h hIs.out (ordW_is h) (by rw [hOl.out]; exact hrk) (fun j x hj hx => by rw [← hy]; exact (hl1 j x hj hx).symm) (fun e => by rw [← hy]; exact (hl0 e).1) (fun x hx => by rw [← hy]; exact (hr1 x hx).symm) (fun e => by rw [← hy]; exact (hr0 (by rw [← e, hOl.out])).1)
          rw [this, ← hy]
          rfl)
        obtain ⟨k0, k1, k2, k3, k4, k5, k6⟩ := b7.out.cells
        clear hl0 hl1 hr0 hr1 hy hIs
        generalize hW5 : wc = W5 at *
        go_wp2_with fail
        refine wp_soft_frame Ext 5 (t8tbA Am k cm m y px W5) (by kernel_rfl) (by kernel_rfl) (fun _ _ _ => Ext.trans) ((Ext.refl _).drew) rfl (by show List.Nodup [63, 64, 65, 66, 67]; decide) (by show ∀ d ∈ [63, 64, 65, 66, 67], d < 95; decide) (t8tbA_mono Am k cm m y px W5 Ext (fun _ _ h => h)) ?_ ⟨?_, ?_, ?_, ?_, ?_, trivial⟩
        · intro W vs hT hR
          match vs, hT with
          | [v0, v1, v2, v3, v4], ⟨e0, e1, e2, e3, e4, _⟩ =>
            simp only [t8tbA, List.map_cons, List.map_nil, List.zip_cons_cons, List.zip_nil_left, putAll, List.setIfInBounds_toArray, List.set_cons_zero, List.set_cons_succ, List.drop_succ_cons, List.drop_zero]
            simp only at e1 e3
            obtain ⟨q0, e0, h0⟩ := e0
            obtain ⟨q2, e2, h2⟩ := e2
            obtain ⟨q4, e4, h4⟩ := e4
            rw [e0, e1, e2, e3, e4]
            clear e0 e1 e2 e3 e4 v0 v1 v2 v3 v4
            have hr7 : ItS W (some ⟨q4, 0, none⟩) [y] := ItS.box h4
            clear hT h0
            go_wp2_with (first
              | (at_builtin
                 refine wpList_append_IB (w0 := W5) rfl (.tmp 65) (.tmp 67) rfl _ m rfl h2 hR _ 1 1 [y] rfl rfl hr7 (by rw [hk.out, List.length_cons, List.length_nil]; omega) ?_
                 intro v6 w6 o6 x6 g6 e6)
              | fail)
            obtain ⟨A6, c6', rfl, hc6, hI6⟩ := o6.open
            obtain ⟨m6, hm6⟩ : ∃ k, (m ++ [y]).length = k := ⟨_, rfl⟩
            have hm6k : m6 ≤ 61 := by rw [← hm6, List.length_append, hk.out, List.length_cons, List.length_nil]; omega
            rw [hm6] at hc6 ⊢
            refine (known_tr A6 m6 c6' (m ++ [y]) w6 hI6 hm6 hc6 (by omega)).mono ?_
            rintro e w7 ⟨rfl, x67⟩
            have x57 := x6.trans x67
            have hI7 := Lib.hid (hI6.ext x67)
            replace i0 := x57.keep i0
            replace i1 := x57.keep i1
            have hO6 := Lib.hid (hO7.out.ext x57)
            have xw7 := xw5.trans x57
            replace hm6 := Lib.hid hm6
            clear k0 k1 k2 k3 k4 k5 k6 hR h2 h4 hr7 g6 e6 hI6 x6 x67 x57 hO7 o6 hM b7
            cases hf : knownI (m ++ [y]) with
            | false =>
              go_wp2
              go_ret
              exact ⟨rfl, xw7⟩
            | true =>
              have hbt := Lib.hid (hbet.out hf)
              have ho8 := Lib.hid (order_tr A6 m6 c6' (m ++ [y]) w7 hI7.out hf hm6.out hc6 (by omega))
              clear hf hbet
              generalize m ++ [y] = my at *
              go_wp2_with fail
              refine ho8.out.mono ?_
              rintro e W8 ⟨v8, rfl, o8, x8⟩
              obtain ⟨A8, c8, rfl, hkc8, hO9⟩ := o8.open
              replace i0 := x8.keep i0
              replace i1 := x8.keep i1
              have hO8 := Lib.hid (hO6.out.ext x8)
              have hGot := Lib.hid hO9
              have xw8 := Lib.hid (xw7.trans x8)
              have hOt := Lib.hid (show (O.take r).length = r by rw [List.length_take, hOl.out]; omega)
              have hOd := Lib.hid (show (O.drop r).length = k - r by rw [List.length_drop, hOl.out])
              have hup := fun W => uptoO A4 k c4 r (by omega) (r : Int) rfl W
              have hfr := fun W => fromO A4 k c4 r (by omega) (r : Int) rfl W
              have hgl : (ordW my).length ≤ 61 := by
                rw [hbt.out]
                simp only [List.length_append, List.length_cons, hOt.out, hOd.out]
                omega
              clear x8 o8 hO9 hO6 ho8 xw7
              generalize ordW my = G at *
              go_wp2_with fail
              refine wp_soft_frame Ext 7 (t8tbB A4 k c4 r O ia ib pi W8) (by kernel_rfl) (by kernel_rfl) (fun _ _ _ => Ext.trans) ((Ext.refl _).drew) rfl (by show List.Nodup [75, 76, 77, 78, 79, 80, 81]; decide) (by show ∀ d ∈ [75, 76, 77, 78, 79, 80, 81], d < 95; decide) (t8tbB_mono A4 k c4 r O ia ib pi W8 Ext (fun _ _ h => h)) ?_ ⟨?_, ?_, ?_, ?_, ?_, ?_, ?_, trivial⟩
              · intro W vs hT hR
                match vs, hT with
                | [v0, v1, v2, v3, v4, v5, v6], ⟨e0, e1, e2, e3, e4, e5, e6, _⟩ =>
                  simp only [t8tbB, List.map_cons, List.map_nil, List.zip_cons_cons, List.zip_nil_left, putAll, List.setIfInBounds_toArray, List.set_cons_zero, List.set_cons_succ, List.drop_succ_cons, List.drop_zero]
                  simp only at e1 e2 e3 e5
                  obtain ⟨q0, e0, h0⟩ := e0
                  obtain ⟨q4, e4, h4⟩ := e4
                  obtain ⟨q6, e6, h6⟩ := e6
                  rw [e0, e1, e2, e3, e4, e5, e6]
                  clear e0 e1 e2 e3 e4 e5 e6 v0 v1 v2 v3 v4 v5 v6
                  clear hT h0
                  go_wp2_with (first
                    | (at_builtin
                       first
                       | (refine wpList_append_O (w0 := W8) rfl (.tmp 79) (.tmp 81) rfl _ (O.take r) rfl h4 hR _ 1 1 [(ia, ib)] rfl rfl h6 (by rw [hOt.out, List.length_cons, List.length_nil]; omega) ?_
                          intro v10 w10 o10 x10 g10 e10)
                       | (refine wpList_append_O (w0 := W8) rfl (.tmp 83) (.tmp 86) rfl _ (O.take r ++ [(ia, ib)]) rfl o10 x10 _ (k - r) (c4 - r) (O.drop r) rfl hOd.out ((hO8.out.ext x10).cut hOl.out hkc4 hrk) (by rw [List.length_append, hOt.out, hOd.out, List.length_cons, List.length_nil]; omega) ?_
                          intro v11 w11 o11 x11 g11 e11))
                    | fail)
                  obtain ⟨A11, c11, rfl, hc11, hI11⟩ := o11.open
                  have hb11 : (O.take r ++ [(ia, ib)] ++ O.drop r).length ≤ 61 := by
                    simp only [List.length_append, List.length_cons, List.length_nil, hOt.out, hOd.out]
                    omega
                  have hsame := Lib.hid (sameO_ref A8 A11 _ _ c8 c11 G (O.take r ++ [(ia, ib)] ++ O.drop r) w11 (hGot.out.ext x11) hI11 rfl rfl (by omega) (by omega))
                  rw [show decide (G = O.take r ++ [(ia, ib)] ++ O.drop r) = true from decide_eq_true (by rw [hbt.out]; simp)] at hsame
                  refine hsame.out.mono ?_
                  rintro e w12 ⟨rfl, x12⟩
                  have xend := Lib.hid ((xw8.out.trans x11).trans x12)
                  clear hsame hI11 o11 x11 x12 g11 e11 o10 x10 g10 e10 hR h4 h6
                  go_wp2
                  go_ret
                  exact ⟨rfl, xend.out⟩
              · refine softR_val 75 _ (by kernel_rfl) rfl rfl ?_
                intro a W hx hout hdep
                refine ⟨rfl, .slice (some ⟨W.heap.size, 0, none⟩) 0 0, _, ?_, ⟨_, rfl, hx.size, heap_alloc_new W _⟩, (Ext.refl W).alloc _⟩
                simp [execOp, go_sem]
              · refine softR_val 76 _ (by kernel_rfl) rfl rfl ?_
                intro a W hx hout hdep
                have ev9 : a.tmps[9]?.getD undef = .slice A4 k c4 := by rw [← Array.getD_eq_getD_getElem?]; exact hout 9 (by show 9 ∉ [75, 76, 77, 78, 79, 80, 81]; decide)
                refine ⟨rfl, .slice A4 k c4, W, ?_, rfl, Ext.refl _⟩
                simp [ev9, execOp, go_sem]
              · refine softR_val 77 _ (by kernel_rfl) rfl rfl ?_
                intro a W hx hout hdep
                have ev10 : a.tmps[10]?.getD undef = Vi (r : Int) := by rw [← Array.getD_eq_getD_getElem?]; exact hout 10 (by show 10 ∉ [75, 76, 77, 78, 79, 80, 81]; decide)
                refine ⟨rfl, Vi (r : Int), W, ?_, rfl, Ext.refl _⟩
                simp [ev10, execOp, go_sem]
              · refine softR_val 78 _ (by kernel_rfl) rfl rfl ?_
                intro a W hx hout hdep
                have ev76 : a.tmps[76]?.getD undef = .slice A4 k c4 := by rw [← Array.getD_eq_getD_getElem?]; exact (hdep ⟨1, .data⟩ (by simp) rfl 76 _ rfl).1
                have ev77 : a.tmps[77]?.getD undef = Vi (r : Int) := by rw [← Array.getD_eq_getD_getElem?]; exact (hdep ⟨2, .data⟩ (by simp) rfl 77 _ rfl).1
                refine ⟨rfl, .slice A4 r c4, W, ?_, rfl, Ext.refl _⟩
                simp [ev76, ev77, hup, execOp, go_sem]
              · refine softR_val 79 _ (by kernel_rfl) rfl rfl ?_
                intro a W hx hout hdep
                have tl75 := (hdep ⟨0, .data⟩ (by simp) rfl 75 _ rfl).1
                have ev78 : a.tmps[78]?.getD undef = .slice A4 r c4 := by rw [← Array.getD_eq_getD_getElem?]; exact (hdep ⟨3, .data⟩ (by simp) rfl 78 _ rfl).1
                obtain ⟨q9, eq9, hq9, hc9⟩ := tl75
                have hs9 : a.eval (.tmp 75) = .slice (some ⟨q9, 0, none⟩) 0 0 := eq9
                have ht9 : a.eval (.tmp 78) = .slice A4 r c4 := (hdep ⟨3, .data⟩ (by simp) rfl 78 _ rfl).1
                obtain ⟨v9, w9, hrun9, ho9, hx9⟩ := run_append_O0 W8 W 32 q9 (O.take r) A4 r c4 hOt.out ((hO8.out.ext hx).take r) hx (by omega) hq9 hc9
                refine ⟨rfl, v9, w9, ?_, ⟨_, rfl, ho9⟩, hx9⟩
                simp only [execOp, resolve, invoke, builtin, Sem.run_bind, Sem.run_pure, Result.andThen_ok, List.map_toArray, List.map_cons, List.map_nil, hs9, ht9, hrun9]
              · refine softR_val 80 _ (by kernel_rfl) rfl rfl ?_
                intro a W hx hout hdep
                have ev5 : a.tmps[5]?.getD undef = .pointer (some ⟨pi, 0, none⟩) := by rw [← Array.getD_eq_getD_getElem?]; exact hout 5 (by show 5 ∉ [75, 76, 77, 78, 79, 80, 81]; decide)
                have q0 := hx.keep i0
                have q1 := hx.keep i1
                refine ⟨rfl, .agg #[.int .u32 ia, .int .u32 ib], W, ?_, rfl, Ext.refl _⟩
                simp [ev5, q0, q1, execOp, go_sem]
              · refine softR_val 81 _ (by kernel_rfl) rfl rfl ?_
                intro a W hx hout hdep
                have ev80 : a.tmps[80]?.getD undef = .agg #[.int .u32 ia, .int .u32 ib] := by rw [← Array.getD_eq_getD_getElem?]; exact (hdep ⟨5, .data⟩ (by simp) rfl 80 _ rfl).1
                refine ⟨rfl, .slice (some ⟨W.heap.size, 0, none⟩) 1 1, _, ?_, ⟨_, rfl, OdS.newAt (ia, ib) rfl⟩, (Ext.refl W).alloc _⟩
                simp [ev80, execOp, go_sem]
        · refine softR_val 63 _ (by kernel_rfl) rfl rfl ?_
          intro a W hx hout hdep
          refine ⟨rfl, .slice (some ⟨W.heap.size, 0, none⟩) 0 0, _, ?_, ⟨_, rfl, hx.size, heap_alloc_new W _⟩, (Ext.refl W).alloc _⟩
          simp [execOp, go_sem]
        · refine softR_val 64 _ (by kernel_rfl) rfl rfl ?_
          intro a W hx hout hdep
          have ev8 : a.tmps[8]?.getD undef = .slice Am k cm := by rw [← Array.getD_eq_getD_getElem?]; exact hout 8 (by show 8 ∉ [63, 64, 65, 66, 67]; decide)
          refine ⟨rfl, .slice Am k cm, W, ?_, rfl, Ext.refl _⟩
          simp [ev8, execOp, go_sem]
        · refine softR_val 65 _ (by kernel_rfl) rfl rfl ?_
          intro a W hx hout hdep
          have tl63 := (hdep ⟨0, .data⟩ (by simp) rfl 63 _ rfl).1
          have ev64 : a.tmps[64]?.getD undef = .slice Am k cm := by rw [← Array.getD_eq_getD_getElem?]; exact (hdep ⟨1, .data⟩ (by simp) rfl 64 _ rfl).1
          obtain ⟨q9, eq9, hq9, hc9⟩ := tl63
          have hs9 : a.eval (.tmp 63) = .slice (some ⟨q9, 0, none⟩) 0 0 := eq9
          have ht9 : a.eval (.tmp 64) = .slice Am k cm := (hdep ⟨1, .data⟩ (by simp) rfl 64 _ rfl).1
          obtain ⟨v9, w9, hrun9, ho9, hx9⟩ := run_append_I0 W5 W 22 q9 m Am k cm hk.out (hM.out.ext hx) hx (by omega) hq9 hc9
          refine ⟨rfl, v9, w9, ?_, ⟨_, rfl, ho9⟩, hx9⟩
          simp only [execOp, resolve, invoke, builtin, Sem.run_bind, Sem.run_pure, Result.andThen_ok, List.map_toArray, List.map_cons, List.map_nil, hs9, ht9, hrun9]
        · refine softR_val 66 _ (by kernel_rfl) rfl rfl ?_
          intro a W hx hout hdep
          have ev11 : a.tmps[11]?.getD undef = .pointer (some ⟨px, 0, none⟩) := by rw [← Array.getD_eq_getD_getElem?]; exact hout 11 (by show 11 ∉ [63, 64, 65, 66, 67]; decide)
          have q0 := hx.keep k0
          have q1 := hx.keep k1
          have q2 := hx.keep k2
          have q3 := hx.keep k3
          have q4 := hx.keep k4
          have q5 := hx.keep k5
          have q6 := hx.keep k6
          refine ⟨rfl, itv y, W, ?_, rfl, Ext.refl _⟩
          simp [ev11, q0, q1, q2, q3, q4, q5, q6, execOp, go_sem]
        · refine softR_val 67 _ (by kernel_rfl) rfl rfl ?_
          intro a W hx hout hdep
          have ev66 : a.tmps[66]?.getD undef = itv y := by rw [← Array.getD_eq_getD_getElem?]; exact (hdep ⟨3, .data⟩ (by simp) rfl 66 _ rfl).1
          refine ⟨rfl, .slice (some ⟨W.heap.size, 0, none⟩) 1 1, _, ?_, ⟨_, rfl, heap_alloc_new W _⟩, (Ext.refl W).alloc _⟩
          simp [ev66, execOp, go_sem]

end Go.Proofs.Ytnocdfmmhnnbeaa
