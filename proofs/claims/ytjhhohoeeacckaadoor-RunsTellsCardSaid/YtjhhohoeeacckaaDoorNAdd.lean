/-
  Contracts of runs.addItems and runs.Items; no claim stands here.
-/
import Derived.Test.YtjhhohoeeacckaaDoorNTog
import Derived.Lib.OthersKept
namespace Go.Proofs.YtjhhohoeeacckaaDoor
open Go.ChangeShapes Go.WideShapes Go.ChangeAt Go.RowKit Go.Sort
set_option linter.unusedVariables false
attribute [local go_sem] World.cell?_alloc_some

/-- a row whose block is as it was -/
theorem OwnG.away {t : TypeId} {s : Nat} {w W W' : World} {v : Value} {n : Nat} {xs : List Value} (h : OwnG t s w W v n xs) (hk : ∀ g, v.ownBlock = some g → W'.heap[g]? = W.heap[g]?) : OwnG t s w W' v n xs := by
  unfold OwnG at h ⊢
  rcases h with ⟨h1, h2 | ⟨g, cap, cur, h2, h3, h4, h5⟩⟩
  · exact ⟨h1, .inl h2⟩
  · refine ⟨h1, .inr ⟨g, cap, cur, h2, h3, ?_, h5⟩⟩
    rw [hk g (by rw [h2]; rfl)]; exact h4
theorem OwnI.away {w W W' : World} {v : Value} {l : List It} (h : OwnI w W v l) (hk : ∀ g, v.ownBlock = some g → W'.heap[g]? = W.heap[g]?) : OwnI w W' v l := OwnG.away h hk
theorem Ext.iterAt {a w : World} (h : Ext a w) {k : Nat} (hk : a.heap.size ≤ k) (s : ByteArray) (pos : Nat) : Ext a (w.iterAt k s pos) := Lib.below_iterAt h hk s pos
theorem BoxI.iterAt {W : World} {g k : Nat} {x : It} (h : BoxI W g x) (hk : g ≠ k) (s : ByteArray) (pos : Nat) : BoxI (W.iterAt k s pos) g x := by
  unfold BoxI at h ⊢
  rw [Lib.iterAt_other W k g s pos hk]; exact h
theorem BoxI.frozen {W : World} {g : Nat} {x : It} (h : BoxI W g x) (j : Nat) : W.frozen? ⟨g, j, none⟩ = false := frozen_of_row W g j _ _ h
theorem BoxI.new (W : World) (x : It) : BoxI (W.alloc (.cells #[.int .u32 x.c, .int .u32 x.k, .int .u32 x.lc, .int .u32 x.lk, .int .u32 x.rc, .int .u32 x.rk, .int .i32 x.ch] 39)) W.heap.size x := heap_alloc_new W _

theorem items_step {l : List UInt8} {pos v n : Nat} {c k lc lk rc rk : Int} (hr : runesD (l.drop pos) = v :: runesD (l.drop (pos + n))) : itemsGo c k lc lk rc rk (runesD (l.drop pos)) = (⟨c, k, lc, lk, rc, rk, (v : Int)⟩ : It) :: itemsGo c (k + 1) c k rc rk (runesD (l.drop (pos + n))) := by
  rw [hr]; rfl

theorem ItS.new_at {w : World} {g : Nat} (x : It) (h : w.heap.size = g) : ItS (w.alloc (.cells #[.int .u32 x.c, .int .u32 x.k, .int .u32 x.lc, .int .u32 x.lk, .int .u32 x.rc, .int .u32 x.rk, .int .i32 x.ch] 39)) (some ⟨g, 0, none⟩) [x] := by
  subst h; exact ItS.new w x
theorem BoxI.set6 {W : World} {g : Nat} {c k lc lk rc rk ch : Int} (h : BoxI W g ⟨c, k, lc, lk, rc, rk, ch⟩) (u : Int) : BoxI (W.setCell ⟨g, 6, none⟩ (.int .i32 u)) g ⟨c, k, lc, lk, rc, rk, u⟩ := heap_setCell_same W g 6 _ _ _ h
theorem BoxI.set1 {W : World} {g : Nat} {c k lc lk rc rk ch : Int} (h : BoxI W g ⟨c, k, lc, lk, rc, rk, ch⟩) (u : Int) : BoxI (W.setCell ⟨g, 1, none⟩ (.int .u32 u)) g ⟨c, u, lc, lk, rc, rk, ch⟩ := heap_setCell_same W g 1 _ _ _ h
theorem BoxI.set2 {W : World} {g : Nat} {c k lc lk rc rk ch : Int} (h : BoxI W g ⟨c, k, lc, lk, rc, rk, ch⟩) (u : Int) : BoxI (W.setCell ⟨g, 2, none⟩ (.int .u32 u)) g ⟨c, k, u, lk, rc, rk, ch⟩ := heap_setCell_same W g 2 _ _ _ h
theorem BoxI.set3 {W : World} {g : Nat} {c k lc lk rc rk ch : Int} (h : BoxI W g ⟨c, k, lc, lk, rc, rk, ch⟩) (u : Int) : BoxI (W.setCell ⟨g, 3, none⟩ (.int .u32 u)) g ⟨c, k, lc, u, rc, rk, ch⟩ := heap_setCell_same W g 3 _ _ _ h

/-- what the loop of addItems keeps -/
def AddKeep (w0 : World) (q it : Nat) (s : ByteArray) (c rc rk : Int) (L : List It) (v : Value) (W : World) : Prop :=
  ∃ (pos : Nat) (o : List It) (k lc lk ch : Int), pos ≤ s.size ∧ Hid (OwnI w0 W v o) ∧ Hid (BoxI W q ⟨c, k, lc, lk, rc, rk, ch⟩) ∧ Hid (W.heap[it]? = some (.stringIter s pos)) ∧ Ext w0 W ∧
    Hid (o ++ itemsGo c k lc lk rc rk (runesD (s.data.toList.drop pos)) = L) ∧ 0 ≤ k ∧ Hid (k + (runesD (s.data.toList.drop pos)).length ≤ 4294967295) ∧ Hid (∀ g, v.ownBlock = some g → g ≠ q ∧ g ≠ it)

set_option maxRecDepth 100000 in
set_option maxHeartbeats 4000000 in
theorem addItems_any (w0 W : World) (v : Value) (o : List It) (r : Rn) (ho : OwnI w0 W v o) (hx : Ext w0 W) (hm : r.k + (runesD r.t).length ≤ 4294967295) (hk0 : 0 ≤ r.k) (hL : (o ++ itemsR r).length ≤ 50000) :
    Calls Tryd.prog 21 #[v, rnv r] W (RetI w0 (o ++ itemsR r)) := by
  obtain ⟨L, hLd⟩ : ∃ L, o ++ itemsR r = L := ⟨_, rfl⟩
  rw [hLd] at hL ⊢
  obtain ⟨s, hs⟩ : ∃ s : ByteArray, s = ⟨r.t.toArray⟩ := ⟨_, rfl⟩
  have hst : s.data.toList = r.t := by rw [hs]
  have hsz : s.data.toList.length = s.size := (Lib.size_eq s).symm
  show Calls Tryd.prog 21 #[v, .agg #[.int .u32 r.c, .int .u32 r.k, .int .u32 r.lc, .int .u32 r.lk, .int .u32 r.rc, .int .u32 r.rk, .string ⟨r.t.toArray⟩]] W (RetI w0 L)
  rw [← hs]
  have hgo := Lib.hid (show o ++ itemsGo r.c r.k r.lc r.lk r.rc r.rk (runesD (s.data.toList.drop 0)) = L by rw [List.drop_zero, hst]; exact hLd)
  have hmk := Lib.hid (show r.k + (runesD (s.data.toList.drop 0)).length ≤ 4294967295 by rw [List.drop_zero, hst]; exact hm)
  have hlt := Lib.hid (fun g (hg : v.ownBlock = some g) => (ho.lt g hg).2)
  replace ho := Lib.hid ho
  clear hLd hm hst hs
  replace hsz := Lib.hid hsz
  go_enter Tryd.func21, Tryd.ntmps21
  go_wp2
  have hq : w0.heap.size ≤ W.heap.size + 1 := by have := hx.size; omega
  go_loopw [0] (AddKeep w0 (W.heap.size + 1) (W.heap.size + 1 + 1) s r.c r.rc r.rk L) (fun _ X => s.size - X.iterPos (W.heap.size + 1 + 1))
  case atStart =>
    refine ⟨0, o, r.k, r.lc, r.lk, 0, Nat.zero_le _, Lib.hid (ho.out.ext (((Ext.refl _).alloc _).alloc _ |>.alloc _)), Lib.hid ?_, Lib.hid ?_, ((hx.alloc _).alloc _).alloc _, hgo, hk0, hmk, Lib.hid fun g hg => ?_⟩
    · refine BoxI.ext ?_ ((Ext.refl _).alloc _)
      have h := BoxI.new (W.alloc (Obj.cells #[Value.int IntKind.u32 r.c, Value.int IntKind.u32 r.k, Value.int IntKind.u32 r.lc, Value.int IntKind.u32 r.lk, Value.int IntKind.u32 r.rc, Value.int IntKind.u32 r.rk, Value.string s] 29)) ⟨r.c, r.k, r.lc, r.lk, r.rc, r.rk, 0⟩
      rw [show (W.alloc (Obj.cells #[Value.int IntKind.u32 r.c, Value.int IntKind.u32 r.k, Value.int IntKind.u32 r.lc, Value.int IntKind.u32 r.lk, Value.int IntKind.u32 r.rc, Value.int IntKind.u32 r.rk, Value.string s] 29)).heap.size = W.heap.size + 1 by simp] at h
      exact h
    · have h := World.iter_heap ((W.alloc (Obj.cells #[Value.int IntKind.u32 r.c, Value.int IntKind.u32 r.k, Value.int IntKind.u32 r.lc, Value.int IntKind.u32 r.lk, Value.int IntKind.u32 r.rc, Value.int IntKind.u32 r.rk, Value.string s] 29)).alloc (Obj.cells #[Value.int IntKind.u32 r.c, Value.int IntKind.u32 r.k, Value.int IntKind.u32 r.lc, Value.int IntKind.u32 r.lk, Value.int IntKind.u32 r.rc, Value.int IntKind.u32 r.rk, Value.int IntKind.i32 0] 39)) s 0
      simpa using h
    · have := hlt.out g hg; omega
  case round =>
    clear hgo hmk ho hlt
    obtain ⟨pos, o, k, lc, lk, ch, hpos, ho, hbox, hit, hxw, hgo, hk0, hmk, haw⟩ := hrel
    generalize hqd : W.heap.size + 1 = q at *
    have hqi : q ≠ q + 1 := by omega
    by_cases hp : pos < s.size
    · have hnx : ∀ ty, (Instr.next (.pointer (some ⟨q + 1, 0, none⟩)) true ty).run Tryd.prog wr = _ := fun ty => Lib.run_next_any_at wr (q + 1) s pos ty hit.out hp
      have hdec := Lib.decodeL_drop s pos
      have hne : s.data.toList.drop pos ≠ [] := drop_ne (by rw [hsz.out]; exact hp)
      have hwd := Lib.decodeL_width (s.data.toList.drop pos)
      have hru := Lib.decodeL_rune (s.data.toList.drop pos)
      have hle := Lib.decodeL_le (s.data.toList.drop pos) hne
      rw [List.length_drop, hsz.out] at hle
      have hrs := Lib.hid (runesD_step (s.data.toList.drop pos) hne)
      rw [List.drop_drop, hdec] at hrs
      rw [hdec] at hwd hru hle
      clear hne hdec
      generalize hnd : (Utf8.decode s pos).1 = ch' at *
      generalize hwdd : (Utf8.decode s pos).2 = wd at *
      have hlen1 := hmk.out
      rw [hrs.out, List.length_cons] at hlen1
      have hg2 := Lib.hid (show o ++ [(⟨r.c, k, lc, lk, r.rc, r.rk, (ch' : Int)⟩ : It)] ++ itemsGo r.c (k + 1) r.c k r.rc r.rk (runesD (s.data.toList.drop (pos + wd))) = L by rw [← hgo.out, items_step hrs.out]; simp)
      have hol : o.length + 1 ≤ 50000 := by
        have := congrArg List.length hg2.out
        simp only [List.length_append, List.length_cons, List.length_nil] at this
        omega
      have hm2 := Lib.hid (show k + 1 + (runesD (s.data.toList.drop (pos + wd))).length ≤ 4294967295 by omega)
      have hwr : IntKind.u32.wrap (k + 1) = k + 1 := IntWalk.u32_in _ (by omega)
      have hbox1 := Lib.hid (hbox.out.iterAt hqi s (pos + wd))
      have hit1 := Lib.hid (Lib.iterAt_heap wr (q + 1) s pos (pos + wd) hit.out)
      have hxw1 := hxw.iterAt (k := q + 1) (by omega) s (pos + wd)
      have ho1 := Lib.hid (ho.out.away (W' := wr.iterAt (q + 1) s (pos + wd)) fun g hg => Lib.iterAt_other wr (q + 1) g s (pos + wd) (haw.out g hg).2)
      have hpo : wr.iterPos (q + 1) = pos := by simp only [World.iterPos, hit.out]
      clear hgo hmk hrs hlen1 ho hbox hit hxw
      obtain ⟨c0, c1, c2, c3, c4, c5, c6⟩ := hbox1.out.cells
      simp only [Nat.zero_add] at c0 c1 c2 c3 c4 c5 c6
      have f6 := hbox1.out.frozen 6
      generalize hW1 : wr.iterAt (q + 1) s (pos + wd) = W1 at *
      clear hW1
      have hq1 : q < W1.heap.size := hbox1.out.lt
      have hq2 : q + 1 < W1.heap.size := (Array.getElem?_eq_some_iff.1 hit1.out).1
      go_wp2_with (first
        | (at_builtin
           refine wpList_append_I (w0 := w0) rfl (.tmp 23) (.tmp 25) rfl _ o rfl ((ho1.out.away (W' := W1.setCell ⟨q, 6, none⟩ (.int .i32 (ch' : Int))) fun g hg => Below.heap_setCell _ _ _ _ (haw.out g hg).1).ext ((Ext.refl _).alloc _)) ((hxw1.setCell hq _).alloc _) _ 1 1 [(⟨r.c, k, lc, lk, r.rc, r.rk, (ch' : Int)⟩ : It)] rfl rfl (ItS.new_at _ (by simp)) (by simp only [List.length_cons, List.length_nil]; omega) ?_
           intro v3 w3 o3 x3 g3 b3
           have bx3 := BoxI.grown ((hbox1.out.set6 (ch' : Int)).ext ((Ext.refl _).alloc (Obj.cells #[Value.int IntKind.u32 r.c, Value.int IntKind.u32 k, Value.int IntKind.u32 lc, Value.int IntKind.u32 lk, Value.int IntKind.u32 r.rc, Value.int IntKind.u32 r.rk, Value.int IntKind.i32 (ch' : Int)] 39))) g3 (fun e => (haw.out q e.symm).1 rfl)
           have it3 : w3.heap[q + 1]? = some (.stringIter s (pos + wd)) := by
             rw [g3.block (q + 1) (by simp; omega) (fun e => (haw.out (q + 1) e.symm).2 rfl)]
             rw [Lib.alloc_old _ _ _ (by simp; omega), Below.heap_setCell _ _ _ _ (by simp)]
             exact hit1.out
           have haw3 : ∀ g, v3.ownBlock = some g → g ≠ q ∧ g ≠ q + 1 := fun g hg => by
             rcases b3 with e | e
             · exact haw.out g (e.symm.trans hg)
             · rw [e] at hg
               injection hg with hg
               have : g = W1.heap.size + 1 := by rw [← hg]; simp
               omega
           replace o3 := Lib.hid o3
           replace bx3 := Lib.hid bx3
           replace it3 := Lib.hid it3
           replace haw3 := Lib.hid haw3
           clear c0 c1 c2 c3 c4 c5 c6 f6 g3 b3
           obtain ⟨c0, c1, c2, c3, c4, c5, c6⟩ := bx3.out.cells
           simp only [Nat.zero_add] at c0 c1 c2 c3 c4 c5 c6
           have f1 := bx3.out.frozen 1
           have f2 := bx3.out.frozen 2
           have f3 := bx3.out.frozen 3))
      go_roundw
      case rel =>
        refine ⟨pos + wd, _, k + 1, r.c, k, (ch' : Int), by omega, Lib.hid (o3.out.away fun g hg => ?_), Lib.hid (((bx3.out.set2 _).set3 _).set1 _), Lib.hid ?_, ((x3.setCell hq _).setCell hq _).setCell hq _, hg2, by omega, hm2, haw3⟩
        · rw [Below.heap_setCell _ _ _ _ (haw3.out g hg).1, Below.heap_setCell _ _ _ _ (haw3.out g hg).1, Below.heap_setCell _ _ _ _ (haw3.out g hg).1]
        · rw [Below.heap_setCell _ _ _ _ (by simp), Below.heap_setCell _ _ _ _ (by simp), Below.heap_setCell _ _ _ _ (by simp)]
          exact it3.out
      case measure =>
        have hE : (((w3.setCell ⟨q, 2, none⟩ (.int .u32 r.c)).setCell ⟨q, 3, none⟩ (.int .u32 k)).setCell ⟨q, 1, none⟩ (.int .u32 (k + 1))).iterPos (q + 1) = pos + wd := by
          simp only [World.iterPos]
          rw [Below.heap_setCell _ _ _ _ (by simp), Below.heap_setCell _ _ _ _ (by simp), Below.heap_setCell _ _ _ _ (by simp), it3.out]
        show s.size - World.iterPos _ (q + 1) < s.size - wr.iterPos (q + 1)
        rw [hpo]
        refine Nat.lt_of_le_of_lt (Nat.le_of_eq (congrArg (fun z => s.size - z) hE)) ?_
        omega
    · have hnx : ∀ ty, (Instr.next (.pointer (some ⟨q + 1, 0, none⟩)) true ty).run Tryd.prog wr = _ := fun ty => Lib.run_next_end_at wr (q + 1) s pos ty hit.out hp
      have hend := Lib.hid (show o = L by
        rw [← hgo.out, List.drop_eq_nil_of_le (by rw [hsz.out]; omega), runesD_nil]; simp [itemsGo])
      go_wp2
      go_ret
      exact ⟨_, rfl, hend.out ▸ ho.out, hxw⟩

def mayAll (l : List Rn) : Prop := ∀ r ∈ l, mayN r = true ∧ wfR r
theorem items_take {l : List Rn} {k : Nat} {r : Rn} (h : l[k]? = some r) : itemsOf (l.take (k + 1)) = itemsOf (l.take k) ++ itemsR r := by
  rw [List.take_add_one, h, items_append]
  simp [itemsOf]
theorem items_pre {l : List Rn} (k : Nat) : (itemsOf (l.take k)).length ≤ (itemsOf l).length := by
  have h : itemsOf l = itemsOf (l.take k) ++ itemsOf (l.drop k) := by rw [← items_append, List.take_append_drop]
  rw [h, List.length_append]; omega
theorem may_runs {r : Rn} (h : mayN r = true) : r.k + (runesD r.t).length ≤ 4294967295 ∧ r.c ≠ 0 ∧ Lib.validD r.t = true ∧ 0 < (runesD r.t).length := by
  unfold mayN at h
  rw [decide_eq_true_eq] at h
  exact ⟨by omega, h.2.2.1, h.1, h.2.1⟩

set_option maxRecDepth 100000 in
set_option maxHeartbeats 4000000 in
theorem items_any (A : Option Addr) (n cap : Nat) (l : List Rn) (w : World) (hv : RnS w A l) (hn : l.length = n) (hw : mayAll l) (hb : n ≤ 10000) (hL : (itemsOf l).length ≤ 50000) :
    Calls Tryd.prog 10 #[.slice A n cap] w (RetI w (itemsOf l)) := by
  replace hn := Lib.hid hn
  replace hv := Lib.hid hv
  replace hw := Lib.hid hw
  replace hL := Lib.hid hL
  go_enter Tryd.func10, Tryd.ntmps10
  go_wp2
  go_loopw [3, 8] (fun v i W => ∃ (k : Nat), k ≤ n ∧ i = Vi k ∧ Hid (OwnI w W v (itemsOf (l.take k))) ∧ Ext w W) (fun _ i _ => n - (intOf i).toNat)
  case atStart => exact ⟨0, Nat.zero_le _, rfl, Lib.hid (OwnI.nil _ _), Ext.refl _⟩
  case round =>
    obtain ⟨k, hk, rfl, ho, hx⟩ := hrel
    by_cases hlt : k < n
    · obtain ⟨b, o, r, rfl, hp, d⟩ := hv.out.at (k := k) (by rw [hn.out]; exact hlt)
      obtain ⟨c0, c1, c2, c3, c4, c5, c6⟩ := d.ext hx
      have hm := hw.out r (List.mem_of_getElem? hp)
      have hst := Lib.hid (items_take hp)
      have hpre := items_pre (l := l) (k + 1)
      rw [hst.out] at hpre
      have hcall := Lib.hid (fun (o : Obj) => addItems_any w (wr.alloc o) _ _ r (ho.out.ext ((Ext.refl _).alloc _)) (hx.alloc _) (may_runs hm.1).1 hm.2.2.2.1 (Nat.le_trans hpre hL.out))
      clear hp d hm hpre
      go_wp2_with fail
      refine (hcall.out _).mono ?_
      rintro e w1 ⟨v1, rfl, o1, x1⟩
      replace o1 := Lib.hid o1
      go_wp2
      go_roundw
      case rel => exact ⟨k + 1, by omega, by go_num, Lib.hid (by rw [hst.out]; exact o1.out), x1⟩
      case measure => simp [intOf]; omega
    · have hd := Lib.hid (show l.take k = l from List.take_of_length_le (by rw [hn.out]; omega))
      rw [hd.out] at ho
      go_wp2
      go_ret
      exact ⟨_, rfl, ho.out, hx⟩

end Go.Proofs.YtjhhohoeeacckaaDoor
