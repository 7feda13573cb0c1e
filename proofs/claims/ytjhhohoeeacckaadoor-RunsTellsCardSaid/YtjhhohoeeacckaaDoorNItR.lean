/-
  Contract of the reference's Items; no claim stands here.
-/
import Derived.Test.YtjhhohoeeacckaaDoorNAdd
import Derived.Test.YtjhhohoeeacckaaDoorChr
import Derived.Test.YtjhhohoeeacckaaDoorSoft2
import Derived.BigRegion
namespace Go.Proofs.YtjhhohoeeacckaaDoor
open Go.ChangeShapes Go.WideShapes Go.ChangeAt Go.RowKit Go.Sort
set_option linter.unusedVariables false
attribute [local go_sem] World.cell?_alloc_some

theorem Row.away {W W' : World} {A : Option Addr} {xs : List Value} (h : Row W A xs) (hk : ∀ a, A = some a → W'.heap[a.block]? = W.heap[a.block]?) : Row W' A xs := fun h0 => by
  obtain ⟨b, o, e, hc⟩ := h h0
  exact ⟨b, o, e, fun j u hu => by rw [World.cell?_of_block (w := W) (a := ⟨b, o + j, none⟩) (hk ⟨b, o, none⟩ e)]; exact hc j u hu⟩
/-- a block that holds one Id -/
def BoxD (W : World) (g : Nat) (x y : Int) : Prop := W.heap[g]? = some (.cells #[Vu x, Vu y] 27 (0, 0))
theorem BoxD.new (W : World) (x y : Int) : BoxD (W.alloc (.cells #[Vu x, Vu y] 27)) W.heap.size x y := heap_alloc_new W _
theorem BoxD.ext {W W' : World} {g : Nat} {x y : Int} (h : BoxD W g x y) (hx : Ext W W') : BoxD W' g x y := by
  unfold BoxD at h ⊢
  rw [RowKit.Below.block hx g (Array.getElem?_eq_some_iff.1 h).1]; exact h
theorem BoxD.grown {W W' : World} {g : Nat} {x y : Int} {row : Option Nat} (h : BoxD W g x y) (hg : W.grownBy W' row) (hn : some g ≠ row) : BoxD W' g x y := by
  unfold BoxD at h ⊢
  rw [hg.block g (Array.getElem?_eq_some_iff.1 h).1 hn]; exact h
theorem BoxD.lt {W : World} {g : Nat} {x y : Int} (h : BoxD W g x y) : g < W.heap.size := (Array.getElem?_eq_some_iff.1 h).1
theorem BoxD.cells {W : World} {g : Nat} {x y : Int} (h : BoxD W g x y) : W.cell? ⟨g, 0, none⟩ = some (Vu x) ∧ W.cell? ⟨g, 1, none⟩ = some (Vu y) ∧ W.frozen? ⟨g, 0, none⟩ = false ∧ W.frozen? ⟨g, 1, none⟩ = false :=
  ⟨by rw [cell_of_row W g 0 _ _ _ h]; rfl, by rw [cell_of_row W g 1 _ _ _ h]; rfl, frozen_of_row W g 0 _ _ h, frozen_of_row W g 1 _ _ h⟩
theorem BoxD.set {W : World} {g : Nat} {x y : Int} (h : BoxD W g x y) (u v : Int) : BoxD ((W.setCell ⟨g, 0, none⟩ (Vu u)).setCell ⟨g, 1, none⟩ (Vu v)) g u v :=
  heap_setCell_same _ g 1 _ _ _ (heap_setCell_same W g 0 _ _ _ h)

theorem drop_atU {l : List Nat} {k p : Nat} (h : l[k]? = some p) : l.drop k = p :: l.drop (k + 1) := drop_atI h
/-- what the slots hold -/
def itTab (b o n cap k tg to m ct j : Nat) (r : Rn) (lc lk : Int) (ch : Nat) (sv : Value) : SoftTab := [(52, fun z9 W => z9 = sv),
  (53, fun z9 W => z9 = idv r.c (r.k + j)),
  (54, fun z9 W => z9 = idv lc lk),
  (55, fun z9 W => z9 = .slice (some ⟨b, o, none⟩) n cap),
  (56, fun z9 W => z9 = Vi k),
  (57, fun z9 W => z9 = .pointer (some ⟨b, o + k * 7, none⟩)),
  (58, fun z9 W => z9 = .pointer (some ⟨b, o + k * 7 + 4, none⟩)),
  (59, fun z9 W => z9 = idv r.rc r.rk),
  (60, fun z9 W => z9 = .slice (some ⟨tg, to, none⟩) m ct),
  (61, fun z9 W => z9 = Vi j),
  (62, fun z9 W => z9 = .pointer (some ⟨tg, to + j, none⟩)),
  (63, fun z9 W => z9 = Vr ch),
  (64, fun z9 W => z9 = itv (⟨r.c, r.k + j, lc, lk, r.rc, r.rk, (ch : Int)⟩ : It)),
  (65, fun z9 W => ∃ q, z9 = .slice (some ⟨q, 0, none⟩) 1 1 ∧ ItS W (some ⟨q, 0, none⟩) [(⟨r.c, r.k + j, lc, lk, r.rc, r.rk, (ch : Int)⟩ : It)])]
theorem itTab_mono (b o n cap k tg to m ct j : Nat) (r : Rn) (lc lk : Int) (ch : Nat) (sv : Value) (Rel : World → World → Prop) (hR : ∀ W W', Rel W W' → Ext W W') : SoftMonoR Rel (itTab b o n cap k tg to m ct j r lc lk ch sv) := by
  intro p hp v W W' h hx
  simp only [itTab, List.mem_cons, List.not_mem_nil, or_false] at hp
  rcases hp with rfl | rfl | rfl | rfl | rfl | rfl | rfl | rfl | rfl | rfl | rfl | rfl | rfl | rfl
  all_goals first
    | exact h
    | (obtain ⟨q, h1, h2⟩ := h
       exact ⟨q, h1, h2.ext (hR _ _ hx)⟩)

/-- what the inner loop keeps -/
def ItRel (w : World) (tb : Option Addr) (q : Nat) (ns : List Nat) (c k0 rc rk : Int) (L : List It) (v i : Value) (W : World) : Prop :=
  ∃ (j : Nat) (o : List It) (lc lk : Int), j ≤ ns.length ∧ i = Vi j ∧ Hid (OwnI w W v o) ∧ Hid (BoxD W q lc lk) ∧ Hid (Row W tb (ns.map Vr)) ∧ Ext w W ∧
    Hid (o ++ itemsGo c (k0 + j) lc lk rc rk (ns.drop j) = L) ∧ Hid (∀ g, v.ownBlock = some g → g ≠ q ∧ (∀ a, tb = some a → g ≠ a.block))

set_option maxRecDepth 100000 in
set_option maxHeartbeats 4000000 in
theorem itemsRef_any (A : Option Addr) (n cap : Nat) (l : List Rn) (w : World) (hv : RnS w A l) (hn : l.length = n) (hw : mayAll l) (hb : n ≤ 10000) (hL : (itemsOf l).length ≤ 50000) (ht : ∀ r ∈ l, r.t.length ≤ 200000) :
    Calls Tryd.prog 11 #[.slice A n cap] w (RetI w (itemsOf l)) := by
  replace hn := Lib.hid hn
  replace hv := Lib.hid hv
  replace hw := Lib.hid hw
  replace hL := Lib.hid hL
  replace ht := Lib.hid ht
  go_enter Tryd.func11, Tryd.ntmps11
  go_wp2
  go_loopw [3, 4] (fun v i W => ∃ (k : Nat), k ≤ n ∧ i = Vi k ∧ Hid (OwnI w W v (itemsOf (l.take k))) ∧ Ext w W) (fun _ i _ => n - (intOf i).toNat)
  case atStart => exact ⟨0, Nat.zero_le _, rfl, Lib.hid (OwnI.nil _ _), Ext.refl _⟩
  case round =>
    obtain ⟨k, hk, rfl, ho, hx⟩ := hrel
    by_cases hlt : k < n
    · obtain ⟨b, o, r, rfl, hp, d⟩ := hv.out.at (k := k) (by rw [hn.out]; exact hlt)
      have dk := Lib.hid (d.ext hx)
      obtain ⟨c0, c1, c2, c3, c4, c5, c6⟩ := dk.out
      have hm := hw.out r (List.mem_of_getElem? hp)
      have hmr := may_runs hm.1
      have hwr := hm.2
      have htl := ht.out r (List.mem_of_getElem? hp)
      have hst := Lib.hid (items_take hp)
      have hpre := items_pre (l := l) (k + 1)
      rw [hst.out] at hpre
      have hpre2 := Lib.hid (Nat.le_trans hpre hL.out)
      obtain ⟨L, hLd⟩ : ∃ L, itemsOf (l.take k) ++ itemsR r = L := ⟨_, rfl⟩
      rw [hLd] at hst hpre2
      have hcall := Lib.hid (fun W => chars_any ⟨r.t.toArray⟩ (by show r.t.toArray.size ≤ _; simp; omega) W)
      have d0 := Lib.hid d
      have hk0 : 0 ≤ r.k := hwr.2.2.1
      have hk1 := hmr.1
      have hrl : (runesD r.t).length ≤ 200000 := by have := runesD_len r.t; omega
      clear hp d hm hpre htl
      go_wp2_with fail
      refine (hcall.out _).mono ?_
      rintro e w1 ⟨hret, x1⟩
      have hret : (Lib.validD r.t = false ∧ e = .returned (.tuple #[.slice none 0 0, .bool false]) ∨ Lib.validD r.t = true ∧ ∃ v, e = .returned (.tuple #[v, .bool true]) ∧ OwnU wr w1 v (runesD r.t)) := hret
      rcases hret with ⟨hf, _⟩ | ⟨_, vt, rfl, hu⟩
      · rw [hmr.2.2.1] at hf; cases hf
      have hult := OwnG.lt hu
      obtain ⟨At, ct, rfl, hct⟩ := OwnG.form hu
      have hrow := Lib.hid (OwnG.row hu)
      have hat : ∀ a, At = some a → wr.heap.size ≤ a.block := fun a ha => hult a.block (by rw [ha]; rfl)
      have hdw := dk.out.ext x1
      obtain ⟨c0, c1, c2, c3, c4, c5, c6⟩ := hdw
      have hvlt := Lib.hid (fun g (hg : Value.ownBlock _ = some g) => (ho.out.lt g hg).2)
      have ho1 := Lib.hid (ho.out.ext x1)
      have hx1 := hx.trans x1
      have hsz := x1.size
      have htb : ∀ a, At = some a → a.block < w1.heap.size := fun a ha => (World.ownsRow.lt hu a.block (by rw [ha]; rfl)).2
      have hqw : w.heap.size ≤ w1.heap.size := hx1.size
      clear hu hcall ho
      go_wp2
      have hbx0 := Lib.hid (BoxD.new w1 r.lc r.lk)
      generalize hq1 : w1.heap.size = q1 at *
      generalize hmd : (runesD r.t).length = m at *
      go_loopw [3, 8] (ItRel w At q1 (runesD r.t) r.c r.k r.rc r.rk L) (fun _ i _ => m - (intOf i).toNat)
      case atStart =>
        refine ⟨0, _, r.lc, r.lk, Nat.zero_le _, rfl, Lib.hid (ho1.out.ext ((Ext.refl _).alloc _)), hbx0, Lib.hid (hrow.out.ext ((Ext.refl _).alloc _)), hx1.alloc _, Lib.hid (by simp only [List.drop_zero, Int.natCast_zero, Int.add_zero]; exact hLd), Lib.hid fun g hg => ?_⟩
        have h1 := hvlt.out g hg
        refine ⟨by omega, fun a ha => ?_⟩
        have h2 := hat a ha
        omega
      case round =>
        obtain ⟨j, o2, lc, lk, hj, rfl, ho2, hbox, hrw, hxw, hgo, haw⟩ := hrel
        by_cases hjl : j < m
        · obtain ⟨tg, to, rfl, hcell⟩ := hrw.out (by simp; omega)
          obtain ⟨ch, hch⟩ : ∃ ch, (runesD r.t)[j]? = some ch := ⟨_, List.getElem?_eq_getElem (by omega)⟩
          have htq : tg ≠ q1 := Nat.ne_of_lt (htb ⟨tg, to, none⟩ rfl)
          have hcc := hcell j (Vr ch) (by rw [List.getElem?_map, hch]; rfl)
          have hdr := drop_atU hch
          have hg2 := Lib.hid (show o2 ++ [(⟨r.c, r.k + j, lc, lk, r.rc, r.rk, (ch : Int)⟩ : It)] ++ itemsGo r.c (r.k + (j + 1 : Nat)) r.c (r.k + j) r.rc r.rk ((runesD r.t).drop (j + 1)) = L by
            rw [← hgo.out, hdr, itemsGo, show r.k + ((j + 1 : Nat) : Int) = r.k + j + 1 by omega]; simp)
          have hol : o2.length + 1 ≤ 50000 := by
            have := congrArg List.length hg2.out
            have h9 := hpre2.out
            simp only [List.length_append, List.length_cons, List.length_nil] at this
            omega
          obtain ⟨c0, c1, c2, c3, c4, c5, c6⟩ := d0.out.ext hxw
          obtain ⟨e0, e1, f0, f1⟩ := hbox.out.cells
          have hw1 : IntKind.u32.wrap (j : Int) = j := IntWalk.u32_in _ (by omega)
          have hw2 : IntKind.u32.wrap (r.k + (j : Int)) = r.k + j := IntWalk.u32_in _ (by omega)
          clear hgo hcell hdr hch
          go_wp2_with fail
          go_region
          have hbn : BoxD (wr.alloc (Obj.cells #[Value.int IntKind.u32 r.c, Value.int IntKind.u32 (r.k + (j : Int))] 27)) wr.heap.size r.c (r.k + j) := BoxD.new wr _ _
          have xA : Ext wr (wr.alloc (Obj.cells #[Value.int IntKind.u32 r.c, Value.int IntKind.u32 (r.k + (j : Int))] 27)).drew := ((Ext.refl wr).alloc _).drew
          have hbn2 := Lib.hid (hbn.ext ((Ext.refl _).drew))
          have hp9 : wr.heap.size < (wr.alloc (Obj.cells #[Value.int IntKind.u32 r.c, Value.int IntKind.u32 (r.k + (j : Int))] 27)).drew.heap.size := hbn2.out.lt
          obtain ⟨i0, i1, _, _⟩ := hbn2.out.cells
          have hown : ∀ g, Value.ownBlock _ = some g → g < wr.heap.size := fun g hg => (ho2.out.lt g hg).2
          clear hbn
          replace hcc := xA.keep hcc
          replace c0 := xA.keep c0
          replace c1 := xA.keep c1
          replace c2 := xA.keep c2
          replace c3 := xA.keep c3
          replace c4 := xA.keep c4
          replace c5 := xA.keep c5
          replace e0 := xA.keep e0
          replace e1 := xA.keep e1
          have htgl := World.block_lt_of_cell? _ _ hcc
          simp only at htgl
          have ho3 := Lib.hid (ho2.out.ext xA)
          have hbox3 := Lib.hid (hbox.out.ext xA)
          have hrw3 := Lib.hid (hrw.out.ext xA)
          have hxw3 := hxw.trans xA
          clear f0 f1 xA hbox hrw hxw
          generalize (wr.alloc (Obj.cells #[Value.int IntKind.u32 r.c, Value.int IntKind.u32 (r.k + (j : Int))] 27)).drew = W2 at *
          generalize wr.heap.size = p9 at *
          go_wp2_with fail
          refine wp_soft_frame Ext 14 (itTab b o n cap k tg to m ct j r lc lk ch u3) (by kernel_rfl) (by kernel_rfl) (fun _ _ _ => Ext.trans) ((Ext.refl _).drew) rfl (by show List.Nodup [52, 53, 54, 55, 56, 57, 58, 59, 60, 61, 62, 63, 64, 65]; decide) (by show ∀ d ∈ [52, 53, 54, 55, 56, 57, 58, 59, 60, 61, 62, 63, 64, 65], d < 69; decide) (itTab_mono b o n cap k tg to m ct j r lc lk ch u3 _ (fun _ _ h => h)) ?_ ⟨?_, ?_, ?_, ?_, ?_, ?_, ?_, ?_, ?_, ?_, ?_, ?_, ?_, ?_, trivial⟩
          · intro W vs hT hR
            match vs, hT with
            | [v0, v1, v2, v3, v4, v5, v6, v7, v8, v9, v10, v11, v12, v13], ⟨e0, e1, e2, e3, e4, e5, e6, e7, e8, e9, e10, e11, e12, e13, _⟩ =>
              simp only [itTab, List.map_cons, List.map_nil, List.zip_cons_cons, List.zip_nil_left, putAll, List.setIfInBounds_toArray, List.set_cons_zero, List.set_cons_succ, List.drop_succ_cons, List.drop_zero]
              simp only at e0 e1 e2 e3 e4 e5 e6 e7 e8 e9 e10 e11 e12
              obtain ⟨q13, e13, h13⟩ := e13
              rw [e0, e1, e2, e3, e4, e5, e6, e7, e8, e9, e10, e11, e12, e13]
              clear e0 e1 e2 e3 e4 e5 e6 e7 e8 e9 e10 e11 e12 e13 v0 v1 v2 v3 v4 v5 v6 v7 v8 v9 v10 v11 v12 v13
              refine wpList_append_I (w0 := w) rfl (.tmp 52) (.tmp 65) rfl _ o2 rfl (ho3.out.ext hR) (hxw3.trans hR) _ 1 1 [(⟨r.c, r.k + j, lc, lk, r.rc, r.rk, (ch : Int)⟩ : It)] rfl rfl h13 (by simp only [List.length_cons, List.length_nil]; omega) ?_
              intro v3 w3 o3 x3 g3 b3
              have hq2 : q1 < W2.heap.size := hbox3.out.lt
              have bx3 := Lib.hid ((hbox3.out.ext hR).grown g3 (fun e => (haw.out _ e.symm).1 rfl))
              have bn3 := Lib.hid ((hbn2.out.ext hR).grown g3 (fun e => Nat.lt_irrefl _ (hown _ e.symm)))
              have rw3 := Lib.hid ((hrw3.out.ext hR).away (W' := w3) (fun a ha => g3.block a.block (by injection ha with ha; subst ha; exact Nat.lt_of_lt_of_le htgl hR.size) (fun e => (haw.out _ e.symm).2 a ha rfl)))
              have haw3 : Hid (∀ g, v3.ownBlock = some g → g ≠ q1 ∧ (∀ a, some (⟨tg, to, none⟩ : Addr) = some a → g ≠ a.block)) := Lib.hid fun g hg => by
                rcases b3 with e | e
                · exact haw.out g (e.symm.trans hg)
                · rw [e] at hg
                  injection hg with hg
                  have hg' : g = W.heap.size := hg.symm
                  have hRs := hR.size
                  refine ⟨by omega, fun a ha => ?_⟩
                  injection ha with ha
                  subst ha
                  show g ≠ tg
                  omega
              obtain ⟨i0, i1, _, _⟩ := bn3.out.cells
              obtain ⟨_, _, f0, f1⟩ := bx3.out.cells
              replace o3 := Lib.hid o3
              clear g3 b3
              go_wp2
              go_roundw
              case rel =>
                refine ⟨j + 1, _, r.c, r.k + j, by omega, by go_num, Lib.hid (o3.out.away fun g hg => ?_), Lib.hid (bx3.out.set _ _), Lib.hid (rw3.out.away fun a ha => ?_), (x3.setCell hqw _).setCell hqw _, hg2, haw3⟩
                · rw [Below.heap_setCell _ _ _ _ (haw3.out g hg).1, Below.heap_setCell _ _ _ _ (haw3.out g hg).1]
                · injection ha with ha
                  subst ha
                  rw [Below.heap_setCell _ _ _ _ htq, Below.heap_setCell _ _ _ _ htq]
              case measure => simp [intOf]; omega
          · refine softR_val 52 _ (by kernel_rfl) rfl rfl ?_
            intro a W hx hout hdep
            have ev3 : a.tmps[3]?.getD undef = u3 := by rw [← Array.getD_eq_getD_getElem?]; exact hout 3 (by show 3 ∉ [52, 53, 54, 55, 56, 57, 58, 59, 60, 61, 62, 63, 64, 65]; decide)
            refine ⟨rfl, u3, W, ?_, rfl, Ext.refl _⟩
            simp [ev3, execOp, go_sem]
          · refine softR_val 53 _ (by kernel_rfl) rfl rfl ?_
            intro a W hx hout hdep
            have ev9 : a.tmps[9]?.getD undef = .pointer (some ⟨p9, 0, none⟩) := by rw [← Array.getD_eq_getD_getElem?]; exact hout 9 (by show 9 ∉ [52, 53, 54, 55, 56, 57, 58, 59, 60, 61, 62, 63, 64, 65]; decide)
            have q0 := hx.keep i0
            have q1 := hx.keep i1
            refine ⟨rfl, idv r.c (r.k + j), W, ?_, rfl, Ext.refl _⟩
            simp [ev9, q0, q1, execOp, go_sem]
          · refine softR_val 54 _ (by kernel_rfl) rfl rfl ?_
            intro a W hx hout hdep
            have ev7 : a.tmps[7]?.getD undef = .pointer (some ⟨q1, 0, none⟩) := by rw [← Array.getD_eq_getD_getElem?]; exact hout 7 (by show 7 ∉ [52, 53, 54, 55, 56, 57, 58, 59, 60, 61, 62, 63, 64, 65]; decide)
            have q0 := hx.keep e0
            have q1 := hx.keep e1
            refine ⟨rfl, idv lc lk, W, ?_, rfl, Ext.refl _⟩
            simp [ev7, q0, q1, execOp, go_sem]
          · refine softR_val 55 _ (by kernel_rfl) rfl rfl ?_
            intro a W hx hout hdep
            have ev0 : a.tmps[0]?.getD undef = .slice (some ⟨b, o, none⟩) n cap := by rw [← Array.getD_eq_getD_getElem?]; exact hout 0 (by show 0 ∉ [52, 53, 54, 55, 56, 57, 58, 59, 60, 61, 62, 63, 64, 65]; decide)
            refine ⟨rfl, .slice (some ⟨b, o, none⟩) n cap, W, ?_, rfl, Ext.refl _⟩
            simp [ev0, execOp, go_sem]
          · refine softR_val 56 _ (by kernel_rfl) rfl rfl ?_
            intro a W hx hout hdep
            have ev4 : a.tmps[4]?.getD undef = Vi k := by rw [← Array.getD_eq_getD_getElem?]; exact hout 4 (by show 4 ∉ [52, 53, 54, 55, 56, 57, 58, 59, 60, 61, 62, 63, 64, 65]; decide)
            refine ⟨rfl, Vi k, W, ?_, rfl, Ext.refl _⟩
            simp [ev4, execOp, go_sem]
          · refine softR_val 57 _ (by kernel_rfl) rfl rfl ?_
            intro a W hx hout hdep
            have ev55 : a.tmps[55]?.getD undef = .slice (some ⟨b, o, none⟩) n cap := by rw [← Array.getD_eq_getD_getElem?]; exact (hdep ⟨3, .data⟩ (by simp) rfl 55 _ rfl).1
            have ev56 : a.tmps[56]?.getD undef = Vi k := by rw [← Array.getD_eq_getD_getElem?]; exact (hdep ⟨4, .data⟩ (by simp) rfl 56 _ rfl).1
            refine ⟨rfl, .pointer (some ⟨b, o + k * 7, none⟩), W, ?_, rfl, Ext.refl _⟩
            simp [ev55, ev56, hlt, execOp, go_sem]
          · refine softR_val 58 _ (by kernel_rfl) rfl rfl ?_
            intro a W hx hout hdep
            have ev57 : a.tmps[57]?.getD undef = .pointer (some ⟨b, o + k * 7, none⟩) := by rw [← Array.getD_eq_getD_getElem?]; exact (hdep ⟨5, .data⟩ (by simp) rfl 57 _ rfl).1
            refine ⟨rfl, .pointer (some ⟨b, o + k * 7 + 4, none⟩), W, ?_, rfl, Ext.refl _⟩
            simp [ev57, execOp, go_sem]
          · refine softR_val 59 _ (by kernel_rfl) rfl rfl ?_
            intro a W hx hout hdep
            have ev58 : a.tmps[58]?.getD undef = .pointer (some ⟨b, o + k * 7 + 4, none⟩) := by rw [← Array.getD_eq_getD_getElem?]; exact (hdep ⟨6, .data⟩ (by simp) rfl 58 _ rfl).1
            have q0 := hx.keep c4
            have q1 := hx.keep c5
            refine ⟨rfl, idv r.rc r.rk, W, ?_, rfl, Ext.refl _⟩
            simp [ev58, q0, q1, execOp, go_sem]
          · refine softR_val 60 _ (by kernel_rfl) rfl rfl ?_
            intro a W hx hout hdep
            have ev5 : a.tmps[5]?.getD undef = .slice (some ⟨tg, to, none⟩) m ct := by rw [← Array.getD_eq_getD_getElem?]; exact hout 5 (by show 5 ∉ [52, 53, 54, 55, 56, 57, 58, 59, 60, 61, 62, 63, 64, 65]; decide)
            refine ⟨rfl, .slice (some ⟨tg, to, none⟩) m ct, W, ?_, rfl, Ext.refl _⟩
            simp [ev5, execOp, go_sem]
          · refine softR_val 61 _ (by kernel_rfl) rfl rfl ?_
            intro a W hx hout hdep
            have ev8 : a.tmps[8]?.getD undef = Vi j := by rw [← Array.getD_eq_getD_getElem?]; exact hout 8 (by show 8 ∉ [52, 53, 54, 55, 56, 57, 58, 59, 60, 61, 62, 63, 64, 65]; decide)
            refine ⟨rfl, Vi j, W, ?_, rfl, Ext.refl _⟩
            simp [ev8, execOp, go_sem]
          · refine softR_val 62 _ (by kernel_rfl) rfl rfl ?_
            intro a W hx hout hdep
            have ev60 : a.tmps[60]?.getD undef = .slice (some ⟨tg, to, none⟩) m ct := by rw [← Array.getD_eq_getD_getElem?]; exact (hdep ⟨8, .data⟩ (by simp) rfl 60 _ rfl).1
            have ev61 : a.tmps[61]?.getD undef = Vi j := by rw [← Array.getD_eq_getD_getElem?]; exact (hdep ⟨9, .data⟩ (by simp) rfl 61 _ rfl).1
            refine ⟨rfl, .pointer (some ⟨tg, to + j, none⟩), W, ?_, rfl, Ext.refl _⟩
            simp [ev60, ev61, hjl, execOp, go_sem]
          · refine softR_val 63 _ (by kernel_rfl) rfl rfl ?_
            intro a W hx hout hdep
            have ev62 : a.tmps[62]?.getD undef = .pointer (some ⟨tg, to + j, none⟩) := by rw [← Array.getD_eq_getD_getElem?]; exact (hdep ⟨10, .data⟩ (by simp) rfl 62 _ rfl).1
            have q0 := hx.keep hcc
            refine ⟨rfl, Vr ch, W, ?_, rfl, Ext.refl _⟩
            simp [ev62, q0, execOp, go_sem]
          · refine softR_val 64 _ (by kernel_rfl) rfl rfl ?_
            intro a W hx hout hdep
            have ev53 : a.tmps[53]?.getD undef = idv r.c (r.k + j) := by rw [← Array.getD_eq_getD_getElem?]; exact (hdep ⟨1, .data⟩ (by simp) rfl 53 _ rfl).1
            have ev54 : a.tmps[54]?.getD undef = idv lc lk := by rw [← Array.getD_eq_getD_getElem?]; exact (hdep ⟨2, .data⟩ (by simp) rfl 54 _ rfl).1
            have ev59 : a.tmps[59]?.getD undef = idv r.rc r.rk := by rw [← Array.getD_eq_getD_getElem?]; exact (hdep ⟨7, .data⟩ (by simp) rfl 59 _ rfl).1
            have ev63 : a.tmps[63]?.getD undef = Vr ch := by rw [← Array.getD_eq_getD_getElem?]; exact (hdep ⟨11, .data⟩ (by simp) rfl 63 _ rfl).1
            refine ⟨rfl, itv (⟨r.c, r.k + j, lc, lk, r.rc, r.rk, (ch : Int)⟩ : It), W, ?_, rfl, Ext.refl _⟩
            simp [ev53, ev54, ev59, ev63, execOp, go_sem]
          · refine softR_val 65 _ (by kernel_rfl) rfl rfl ?_
            intro a W hx hout hdep
            have ev64 : a.tmps[64]?.getD undef = itv (⟨r.c, r.k + j, lc, lk, r.rc, r.rk, (ch : Int)⟩ : It) := by rw [← Array.getD_eq_getD_getElem?]; exact (hdep ⟨12, .data⟩ (by simp) rfl 64 _ rfl).1
            refine ⟨rfl, .slice (some ⟨W.heap.size, 0, none⟩) 1 1, W.alloc (.cells #[.int .u32 r.c, .int .u32 (r.k + (j : Int)), .int .u32 lc, .int .u32 lk, .int .u32 r.rc, .int .u32 r.rk, .int .i32 (ch : Int)] 39), ?_, ⟨_, rfl, ItS.new W _⟩, (Ext.refl W).alloc _⟩
            simp [ev64, execOp, go_sem]
        · have hend := Lib.hid (show o2 = L by
            rw [← hgo.out, List.drop_eq_nil_of_le (by omega)]; simp [itemsGo])
          go_wp2
          go_roundw
          case rel => exact ⟨k + 1, by omega, by go_num, Lib.hid (by rw [hst.out, ← hend.out]; exact ho2.out), hxw⟩
          case measure => simp [intOf]; omega
    · have hd := Lib.hid (show l.take k = l from List.take_of_length_le (by rw [hn.out]; omega))
      rw [hd.out] at ho
      go_wp2
      go_ret
      exact ⟨_, rfl, ho.out, hx⟩

end Go.Proofs.YtjhhohoeeacckaaDoor
