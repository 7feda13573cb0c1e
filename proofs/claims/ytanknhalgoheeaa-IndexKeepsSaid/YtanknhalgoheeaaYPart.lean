/-
  Contracts of partOf, put, hide; no claim stands here.
-/
import Derived.Test.YtanknhalgoheeaaYBal
import Derived.Test.YtanknhalgoheeaaYChk
import Derived.Test.YtanknhalgoheeaaYLib
import Derived.Test.YtanknhalgoheeaaXHid
namespace Go.Proofs.Ytanknhalgoheeaa
open Go.ChangeShapes Go.WideShapes Go.ChangeAt Go.RowKit Go.Sort
set_option linter.unusedVariables false
attribute [local go_sem] World.cell?_alloc_some

/-- what the slots hold -/
def ypTab (G : Nat → Prop) (A : Option Addr) (n cap h : Nat) (l : List En) : SoftTab := [(13, fun z9 W => z9 = .slice A n cap),
  (14, fun z9 W => z9 = Vi (h : Int)),
  (15, fun z9 W => z9 = .slice A h cap),
  (16, fun z9 W => NewP G W z9 (partTr (l.take h))),
  (17, fun z9 W => z9 = .slice A n cap),
  (18, fun z9 W => z9 = Vi (h : Int)),
  (19, fun z9 W => z9 = .slice (cutA A cap h 4) (n - h) (cap - h)),
  (20, fun z9 W => NewP G W z9 (partTr (l.drop h)))]
theorem ypTab_mono (G : Nat → Prop) (A : Option Addr) (n cap h : Nat) (l : List En) (Rel : World → World → Prop) (hR : ∀ W W', Rel W W' → Ext W W') : SoftMonoR Rel (ypTab G A n cap h l) := by
  intro p hp v W W' h hx
  simp only [ypTab, List.mem_cons, List.not_mem_nil, or_false] at hp
  rcases hp with rfl | rfl | rfl | rfl | rfl | rfl | rfl | rfl
  all_goals first
    | exact h
    | exact NewP.ext h (hR _ _ hx)

/-- what the slots hold -/
def yu2Tab (A : Option Addr) (n cap b eb p : Nat) (x : En) : SoftTab := [(9, fun z9 W => z9 = .pointer (some ⟨b, 0, none⟩)),
  (10, fun z9 W => z9 = .pointer (some ⟨b, 0, none⟩)),
  (11, fun z9 W => z9 = .pointer (some ⟨b, 0, none⟩)),
  (12, fun z9 W => z9 = .slice A n cap),
  (13, fun z9 W => z9 = Vi (p : Int)),
  (14, fun z9 W => z9 = .slice A p cap),
  (15, fun z9 W => z9 = env x),
  (16, fun z9 W => ∃ q, z9 = .slice (some ⟨q, 0, none⟩) 1 1 ∧ BoxE W q x),
  (17, fun z9 W => z9 = .pointer (some ⟨b, 0, none⟩)),
  (18, fun z9 W => z9 = .pointer (some ⟨b, 0, none⟩)),
  (19, fun z9 W => z9 = .pointer (some ⟨b, 0, none⟩)),
  (20, fun z9 W => z9 = .slice A n cap),
  (21, fun z9 W => z9 = Vi (p : Int)),
  (22, fun z9 W => z9 = .slice (cutA A cap p 4) (n - p) (cap - p))]
theorem yu2Tab_mono (A : Option Addr) (n cap b eb p : Nat) (x : En) (Rel : World → World → Prop) (hR : ∀ W W', Rel W W' → Ext W W') : SoftMonoR Rel (yu2Tab A n cap b eb p x) := by
  intro p hp v W W' h hx
  simp only [yu2Tab, List.mem_cons, List.not_mem_nil, or_false] at hp
  rcases hp with rfl | rfl | rfl | rfl | rfl | rfl | rfl | rfl | rfl | rfl | rfl | rfl | rfl | rfl
  all_goals first
    | exact h
    | (obtain ⟨q, h1, h2⟩ := h
       exact ⟨q, h1, by unfold BoxE at h2 ⊢; rw [RowKit.Below.block (hR _ _ hx) q (Array.getElem?_eq_some_iff.1 h2).1]; exact h2⟩)

/-- what the slots hold -/
def yu4Tab (G : Nat → Prop) (b lp rp eb p : Nat) (ta : Tr) (x : En) : SoftTab := [(35, fun z9 W => z9 = .pointer (some ⟨b, 0, none⟩)),
  (36, fun z9 W => z9 = .pointer (some ⟨b, 0, none⟩)),
  (37, fun z9 W => z9 = .pointer (some ⟨b, 1, none⟩)),
  (38, fun z9 W => z9 = .pointer (some ⟨lp, 0, none⟩)),
  (39, fun z9 W => z9 = Vi (p : Int)),
  (40, fun z9 W => z9 = env x),
  (41, fun z9 W => NewP G W z9 (putTr ta p x)),
  (42, fun z9 W => z9 = .pointer (some ⟨b, 0, none⟩)),
  (43, fun z9 W => z9 = .pointer (some ⟨b, 0, none⟩)),
  (44, fun z9 W => z9 = .pointer (some ⟨b, 2, none⟩)),
  (45, fun z9 W => z9 = .pointer (some ⟨rp, 0, none⟩))]
theorem yu4Tab_mono (G : Nat → Prop) (b lp rp eb p : Nat) (ta : Tr) (x : En) (Rel : World → World → Prop) (hR : ∀ W W', Rel W W' → Ext W W') : SoftMonoR Rel (yu4Tab G b lp rp eb p ta x) := by
  intro p hp v W W' h hx
  simp only [yu4Tab, List.mem_cons, List.not_mem_nil, or_false] at hp
  rcases hp with rfl | rfl | rfl | rfl | rfl | rfl | rfl | rfl | rfl | rfl | rfl
  all_goals first
    | exact h
    | exact NewP.ext h (hR _ _ hx)

/-- what the slots hold -/
def yu5Tab (G : Nat → Prop) (b lp rp eb p na m : Nat) (tb : Tr) (x : En) : SoftTab := [(47, fun z9 W => z9 = .pointer (some ⟨b, 0, none⟩)),
  (48, fun z9 W => z9 = .pointer (some ⟨b, 0, none⟩)),
  (49, fun z9 W => z9 = .pointer (some ⟨b, 1, none⟩)),
  (50, fun z9 W => z9 = .pointer (some ⟨lp, 0, none⟩)),
  (51, fun z9 W => z9 = .pointer (some ⟨b, 0, none⟩)),
  (52, fun z9 W => z9 = .pointer (some ⟨b, 0, none⟩)),
  (53, fun z9 W => z9 = .pointer (some ⟨b, 2, none⟩)),
  (54, fun z9 W => z9 = .pointer (some ⟨rp, 0, none⟩)),
  (55, fun z9 W => z9 = Vi (p : Int)),
  (56, fun z9 W => z9 = .pointer (some ⟨b, 0, none⟩)),
  (57, fun z9 W => z9 = .pointer (some ⟨b, 0, none⟩)),
  (58, fun z9 W => z9 = .pointer (some ⟨b, 1, none⟩)),
  (59, fun z9 W => z9 = .pointer (some ⟨lp, 0, none⟩)),
  (60, fun z9 W => z9 = .pointer (some ⟨lp, 0, none⟩)),
  (61, fun z9 W => z9 = .pointer (some ⟨lp, 4, none⟩)),
  (62, fun z9 W => z9 = Vi (na : Int)),
  (63, fun z9 W => z9 = Vi (m : Int)),
  (64, fun z9 W => z9 = env x),
  (65, fun z9 W => NewP G W z9 (putTr tb m x))]
theorem yu5Tab_mono (G : Nat → Prop) (b lp rp eb p na m : Nat) (tb : Tr) (x : En) (Rel : World → World → Prop) (hR : ∀ W W', Rel W W' → Ext W W') : SoftMonoR Rel (yu5Tab G b lp rp eb p na m tb x) := by
  intro p hp v W W' h hx
  simp only [yu5Tab, List.mem_cons, List.not_mem_nil, or_false] at hp
  rcases hp with rfl | rfl | rfl | rfl | rfl | rfl | rfl | rfl | rfl | rfl | rfl | rfl | rfl | rfl | rfl | rfl | rfl | rfl | rfl
  all_goals first
    | exact h
    | exact NewP.ext h (hR _ _ hx)

/-- what the slots hold -/
def yh6Tab (G : Nat → Prop) (b lp rp p : Nat) (ta : Tr) : SoftTab := [(28, fun z9 W => z9 = .pointer (some ⟨b, 0, none⟩)),
  (29, fun z9 W => z9 = .pointer (some ⟨b, 0, none⟩)),
  (30, fun z9 W => z9 = .pointer (some ⟨b, 1, none⟩)),
  (31, fun z9 W => z9 = .pointer (some ⟨lp, 0, none⟩)),
  (32, fun z9 W => z9 = Vi (p : Int)),
  (33, fun z9 W => NewP G W z9 (hideTr ta p)),
  (34, fun z9 W => z9 = .pointer (some ⟨b, 0, none⟩)),
  (35, fun z9 W => z9 = .pointer (some ⟨b, 0, none⟩)),
  (36, fun z9 W => z9 = .pointer (some ⟨b, 2, none⟩)),
  (37, fun z9 W => z9 = .pointer (some ⟨rp, 0, none⟩))]
theorem yh6Tab_mono (G : Nat → Prop) (b lp rp p : Nat) (ta : Tr) (Rel : World → World → Prop) (hR : ∀ W W', Rel W W' → Ext W W') : SoftMonoR Rel (yh6Tab G b lp rp p ta) := by
  intro p hp v W W' h hx
  simp only [yh6Tab, List.mem_cons, List.not_mem_nil, or_false] at hp
  rcases hp with rfl | rfl | rfl | rfl | rfl | rfl | rfl | rfl | rfl | rfl
  all_goals first
    | exact h
    | exact NewP.ext h (hR _ _ hx)

/-- what the slots hold -/
def yh7Tab (G : Nat → Prop) (b lp rp p na m : Nat) (tb : Tr) : SoftTab := [(39, fun z9 W => z9 = .pointer (some ⟨b, 0, none⟩)),
  (40, fun z9 W => z9 = .pointer (some ⟨b, 0, none⟩)),
  (41, fun z9 W => z9 = .pointer (some ⟨b, 1, none⟩)),
  (42, fun z9 W => z9 = .pointer (some ⟨lp, 0, none⟩)),
  (43, fun z9 W => z9 = .pointer (some ⟨b, 0, none⟩)),
  (44, fun z9 W => z9 = .pointer (some ⟨b, 0, none⟩)),
  (45, fun z9 W => z9 = .pointer (some ⟨b, 2, none⟩)),
  (46, fun z9 W => z9 = .pointer (some ⟨rp, 0, none⟩)),
  (47, fun z9 W => z9 = Vi (p : Int)),
  (48, fun z9 W => z9 = .pointer (some ⟨b, 0, none⟩)),
  (49, fun z9 W => z9 = .pointer (some ⟨b, 0, none⟩)),
  (50, fun z9 W => z9 = .pointer (some ⟨b, 1, none⟩)),
  (51, fun z9 W => z9 = .pointer (some ⟨lp, 0, none⟩)),
  (52, fun z9 W => z9 = .pointer (some ⟨lp, 0, none⟩)),
  (53, fun z9 W => z9 = .pointer (some ⟨lp, 4, none⟩)),
  (54, fun z9 W => z9 = Vi (na : Int)),
  (55, fun z9 W => z9 = Vi (m : Int)),
  (56, fun z9 W => NewP G W z9 (hideTr tb m))]
theorem yh7Tab_mono (G : Nat → Prop) (b lp rp p na m : Nat) (tb : Tr) (Rel : World → World → Prop) (hR : ∀ W W', Rel W W' → Ext W W') : SoftMonoR Rel (yh7Tab G b lp rp p na m tb) := by
  intro p hp v W W' h hx
  simp only [yh7Tab, List.mem_cons, List.not_mem_nil, or_false] at hp
  rcases hp with rfl | rfl | rfl | rfl | rfl | rfl | rfl | rfl | rfl | rfl | rfl | rfl | rfl | rfl | rfl | rfl | rfl | rfl
  all_goals first
    | exact h
    | exact NewP.ext h (hR _ _ hx)

/-- a row of the call's own, made a chunk -/
theorem chunkOwn_any {G : Nat → Prop} {w w2 : World} {v : Value} {l : List En} (ho : OwnE w w2 v l) (hb : l.length ≤ 100000) (hG : Up G w) (hx : Ext w w2) :
    Calls Try.prog 28 #[v] w2 (RetN G w2 (.leaf l)) := by
  obtain ⟨A, c, rfl, hc, hE⟩ := OwnE.open ho
  refine chunkOf_any A l.length c l w2 hE rfl hc hb (hG.ext hx) fun h0 => ?_
  obtain ⟨g, c', e, hg, _⟩ := OwnE.block ho h0
  injection e with e1
  exact ⟨g, 0, e1, hG g hg⟩

set_option maxRecDepth 100000 in
set_option maxHeartbeats 16000000 in
theorem partOf_any {G : Nat → Prop} : ∀ (k : Nat) (l : List En) (A : Option Addr) (n cap : Nat) (w : World), l.length ≤ k → EnS w A l → l.length = n → n ≤ cap → n ≤ 100000 → Up G w →
    Calls Try.prog 19 #[.slice A n cap] w (RetN G w (partTr l)) := by
  intro k
  induction k with
  | zero =>
    intro l A n cap w hk hv hn hcap hb hG
    obtain rfl : l = [] := List.length_eq_zero_iff.1 (by omega)
    subst hn
    have hcl := Lib.hid (clone_any A 0 cap [] w hv rfl (by omega))
    rw [part_small (by simp)]
    go_enter Try.func19, Try.ntmps19
    go_wp2_with fail
    refine hcl.out.mono ?_
    rintro e w2 ⟨v2, rfl, o2, x2⟩
    go_wp2_with fail
    refine (chunkOwn_any o2 (by simp) hG x2).mono ?_
    rintro e w4 ⟨v4, rfl, o4, x4⟩
    go_wp2
    go_ret
    exact ⟨v4, rfl, o4, x2.trans x4⟩
  | succ k ih =>
    intro l A n cap w hk hv hn hcap hb hG
    by_cases hs : n ≤ 16
    · have hcl := Lib.hid (clone_any A n cap l w hv hn hb)
      have hd : decide ((n : Int) ≤ 16) = true := by rw [decide_eq_true_eq]; omega
      rw [part_small (by omega)]
      go_enter Try.func19, Try.ntmps19
      go_wp2_with fail
      refine hcl.out.mono ?_
      rintro e w2 ⟨v2, rfl, o2, x2⟩
      go_wp2_with fail
      refine (chunkOwn_any o2 (by omega) hG x2).mono ?_
      rintro e w4 ⟨v4, rfl, o4, x4⟩
      go_wp2
      go_ret
      exact ⟨v4, rfl, o4, x2.trans x4⟩
    · have hd : decide ((n : Int) ≤ 16) = false := by rw [decide_eq_false_iff_not]; omega
      rw [part_big (by omega)]
      obtain ⟨h, hh⟩ : ∃ h, l.length / 2 = h := ⟨_, rfl⟩
      rw [hh]
      have hdv : (n : Int) / 2 = (h : Int) := by omega
      have hup := uptoE A n cap h (by omega) (h : Int) rfl
      have hfr := fromE A n cap h (by omega) (h : Int) rfl
      have hp1 := Lib.hid (fun W (hx : Ext w W) => ih (l.take h) A h cap W (by rw [List.length_take]; omega) ((hv.take h).ext hx) (by rw [List.length_take]; omega) (by omega) (by omega) (hG.ext hx))
      have hp2 := Lib.hid (fun W (hx : Ext w W) => ih (l.drop h) (cutA A cap h 4) (n - h) (cap - h) W (by rw [List.length_drop]; omega) ((hv.cut hn hcap (by omega)).ext hx) (by rw [List.length_drop]; omega) (by omega) (by omega) (hG.ext hx))
      have hok1 : okT (partTr (l.take h)) := part_ok (fun e => by have := congrArg List.length e; rw [List.length_take, List.length_nil] at this; omega)
      have hok2 : okT (partTr (l.drop h)) := part_ok (fun e => by have := congrArg List.length e; rw [List.length_drop, List.length_nil] at this; omega)
      clear ih hv
      go_enter Try.func19, Try.ntmps19
      go_wp2_with fail
      try rw [hdv]
      refine wp_soft_frame Ext 8 (ypTab G A n cap h l) (by kernel_rfl) (by kernel_rfl) (fun _ _ _ => Ext.trans) ((Ext.refl _).drew) rfl (by show List.Nodup [13, 14, 15, 16, 17, 18, 19, 20]; decide) (by show ∀ d ∈ [13, 14, 15, 16, 17, 18, 19, 20], d < 22; decide) (ypTab_mono G A n cap h l Ext (fun _ _ h => h)) ?_ ⟨?_, ?_, ?_, ?_, ?_, ?_, ?_, ?_, trivial⟩
      · intro W vs hT hR
        match vs, hT with
        | [v0, v1, v2, v3, v4, v5, v6, v7], ⟨e0, e1, e2, e3, e4, e5, e6, e7, _⟩ =>
          simp only [ypTab, List.map_cons, List.map_nil, List.zip_cons_cons, List.zip_nil_left, putAll, List.setIfInBounds_toArray, List.set_cons_zero, List.set_cons_succ, List.drop_succ_cons, List.drop_zero]
          simp only at e0 e1 e2 e4 e5 e6
          obtain ⟨q3, e3, h3⟩ := e3
          obtain ⟨q7, e7, h7⟩ := e7
          rw [e0, e1, e2, e3, e4, e5, e6, e7]
          clear e0 e1 e2 e3 e4 e5 e6 e7 v0 v1 v2 v3 v4 v5 v6 v7
          go_wp2_with fail
          refine (join_any h3 h7 (hG.ext hR) hok1 hok2 (by unfold cnt; rw [ents_part, ents_part, List.length_take, List.length_drop]; omega)).mono ?_
          rintro e w4 ⟨v4, rfl, o4, x4⟩
          go_wp2
          go_ret
          exact ⟨v4, rfl, o4, hR.trans x4⟩
      · refine softR_val 13 _ (by kernel_rfl) rfl rfl ?_
        intro a W hx hout hdep
        have ev0 : a.tmps[0]?.getD undef = .slice A n cap := by rw [← Array.getD_eq_getD_getElem?]; exact hout 0 (by show 0 ∉ [13, 14, 15, 16, 17, 18, 19, 20]; decide)
        refine ⟨rfl, .slice A n cap, W, ?_, rfl, Ext.refl _⟩
        simp [ev0, execOp, go_sem]
      · refine softR_val 14 _ (by kernel_rfl) rfl rfl ?_
        intro a W hx hout hdep
        have ev3 : a.tmps[3]?.getD undef = Vi (h : Int) := by rw [← Array.getD_eq_getD_getElem?]; exact hout 3 (by show 3 ∉ [13, 14, 15, 16, 17, 18, 19, 20]; decide)
        refine ⟨rfl, Vi (h : Int), W, ?_, rfl, Ext.refl _⟩
        simp [ev3, execOp, go_sem]
      · refine softR_val 15 _ (by kernel_rfl) rfl rfl ?_
        intro a W hx hout hdep
        have ev13 : a.tmps[13]?.getD undef = .slice A n cap := by rw [← Array.getD_eq_getD_getElem?]; exact (hdep ⟨0, .data⟩ (by simp) rfl 13 _ rfl).1
        have ev14 : a.tmps[14]?.getD undef = Vi (h : Int) := by rw [← Array.getD_eq_getD_getElem?]; exact (hdep ⟨1, .data⟩ (by simp) rfl 14 _ rfl).1
        refine ⟨rfl, .slice A h cap, W, ?_, rfl, Ext.refl _⟩
        simp [ev13, ev14, hup, execOp, go_sem]
      · refine softR_call 16 _ (by kernel_rfl) rfl rfl ?_
        intro a W hx hout hdep
        have ev15 : a.tmps[15]?.getD undef = .slice A h cap := by rw [← Array.getD_eq_getD_getElem?]; exact (hdep ⟨2, .data⟩ (by simp) rfl 15 _ rfl).1
        refine ⟨rfl, 19, #[.slice A h cap], ?_, ?_⟩
        · simp [ev15, execOp, go_sem]
        · exact (hp1.out W hx).mono (by rintro e W1 ⟨v, rfl, h1, h2⟩; exact ⟨v, rfl, h1, h2⟩)
      · refine softR_val 17 _ (by kernel_rfl) rfl rfl ?_
        intro a W hx hout hdep
        have ev0 : a.tmps[0]?.getD undef = .slice A n cap := by rw [← Array.getD_eq_getD_getElem?]; exact hout 0 (by show 0 ∉ [13, 14, 15, 16, 17, 18, 19, 20]; decide)
        refine ⟨rfl, .slice A n cap, W, ?_, rfl, Ext.refl _⟩
        simp [ev0, execOp, go_sem]
      · refine softR_val 18 _ (by kernel_rfl) rfl rfl ?_
        intro a W hx hout hdep
        have ev3 : a.tmps[3]?.getD undef = Vi (h : Int) := by rw [← Array.getD_eq_getD_getElem?]; exact hout 3 (by show 3 ∉ [13, 14, 15, 16, 17, 18, 19, 20]; decide)
        refine ⟨rfl, Vi (h : Int), W, ?_, rfl, Ext.refl _⟩
        simp [ev3, execOp, go_sem]
      · refine softR_val 19 _ (by kernel_rfl) rfl rfl ?_
        intro a W hx hout hdep
        have ev17 : a.tmps[17]?.getD undef = .slice A n cap := by rw [← Array.getD_eq_getD_getElem?]; exact (hdep ⟨4, .data⟩ (by simp) rfl 17 _ rfl).1
        have ev18 : a.tmps[18]?.getD undef = Vi (h : Int) := by rw [← Array.getD_eq_getD_getElem?]; exact (hdep ⟨5, .data⟩ (by simp) rfl 18 _ rfl).1
        refine ⟨rfl, .slice (cutA A cap h 4) (n - h) (cap - h), W, ?_, rfl, Ext.refl _⟩
        simp [ev17, ev18, hfr, execOp, go_sem]
      · refine softR_call 20 _ (by kernel_rfl) rfl rfl ?_
        intro a W hx hout hdep
        have ev19 : a.tmps[19]?.getD undef = .slice (cutA A cap h 4) (n - h) (cap - h) := by rw [← Array.getD_eq_getD_getElem?]; exact (hdep ⟨6, .data⟩ (by simp) rfl 19 _ rfl).1
        refine ⟨rfl, 19, #[.slice (cutA A cap h 4) (n - h) (cap - h)], ?_, ?_⟩
        · simp [ev19, execOp, go_sem]
        · exact (hp2.out W hx).mono (by rintro e W1 ⟨v, rfl, h1, h2⟩; exact ⟨v, rfl, h1, h2⟩)

set_option maxRecDepth 100000 in
set_option maxHeartbeats 16000000 in
theorem put_any {G : Nat → Prop} (x : En) : ∀ (t : Tr) (b p : Nat) (w : World), AtP G w b t → Up G w → (t = .leaf [] ∨ okT t) → p ≤ cnt t → cnt t ≤ 50000 →
    Calls Try.prog 24 #[Vp b, Vi (p : Int), env x] w (RetN G w (putTr t p x)) := by
  intro t
  induction t with
  | leaf l =>
    rintro b p w ⟨_, ch, lf, rt, ⟨c0, c1, c2, c3, c4, c5, c6, c7⟩, rfl, rfl, A, cap, rfl, hcap, hE, _⟩ hG hok hp hb
    have hp : p ≤ l.length := hp
    have hb : l.length ≤ 50000 := hb
    obtain ⟨n, hn⟩ : ∃ n, l.length = n := ⟨_, rfl⟩
    rw [hn] at hp hb hcap c0
    have x0 : Ext w (w.alloc (.cells #[.int .u32 x.c, .int .u32 x.k, .int .i32 x.ch, .bool x.g] 38)) := (Ext.refl _).alloc _
    obtain ⟨eb, heb⟩ : ∃ eb, w.heap.size = eb := ⟨_, rfl⟩
    obtain ⟨w1, hw1⟩ : ∃ W, w.alloc (.cells #[.int .u32 x.c, .int .u32 x.k, .int .i32 x.ch, .bool x.g] 38) = W := ⟨_, rfl⟩
    have e0 : w1.cell? ⟨eb, 0, none⟩ = some (Vu x.c) := by rw [← hw1, ← heb]; simp [go_sem]
    have e1 : w1.cell? ⟨eb, 1, none⟩ = some (Vu x.k) := by rw [← hw1, ← heb]; simp [go_sem]
    have e2 : w1.cell? ⟨eb, 2, none⟩ = some (.int .i32 x.ch) := by rw [← hw1, ← heb]; simp [go_sem]
    have e3 : w1.cell? ⟨eb, 3, none⟩ = some (.bool x.g) := by rw [← hw1, ← heb]; simp [go_sem]
    rw [hw1] at x0
    have c0 := x0.keep c0
    have hl := Lib.hid (leaf_any b w1 (x0.keep c1))
    have hE1 := Lib.hid (hE.ext x0)
    have hup := uptoE A n cap p (by omega) (p : Int) rfl
    have hfr := fromE A n cap p hp (p : Int) rfl
    replace hw1 := Lib.hid hw1
    replace heb := Lib.hid heb
    clear hE c1 c2 c3 c4 c5 c6 c7
    go_enter Try.func24, Try.ntmps24
    go_wp2_with fail
    rw [hw1.out, heb.out]
    refine hl.out.mono ?_
    rintro e w1' ⟨rfl, hw1'⟩
    subst hw1'
    go_wp2_with fail
    refine wp_soft_frame Ext 14 (yu2Tab A n cap b eb p x) (by kernel_rfl) (by kernel_rfl) (fun _ _ _ => Ext.trans) ((Ext.refl _).drew) rfl (by show List.Nodup [9, 10, 11, 12, 13, 14, 15, 16, 17, 18, 19, 20, 21, 22]; decide) (by show ∀ d ∈ [9, 10, 11, 12, 13, 14, 15, 16, 17, 18, 19, 20, 21, 22], d < 67; decide) (yu2Tab_mono A n cap b eb p x Ext (fun _ _ h => h)) ?_ ⟨?_, ?_, ?_, ?_, ?_, ?_, ?_, ?_, ?_, ?_, ?_, ?_, ?_, ?_, trivial⟩
    · intro W vs hT hR
      match vs, hT with
      | [v0, v1, v2, v3, v4, v5, v6, v7, v8, v9, v10, v11, v12, v13], ⟨e0, e1, e2, e3, e4, e5, e6, e7, e8, e9, e10, e11, e12, e13, _⟩ =>
        simp only [yu2Tab, List.map_cons, List.map_nil, List.zip_cons_cons, List.zip_nil_left, putAll, List.setIfInBounds_toArray, List.set_cons_zero, List.set_cons_succ, List.drop_succ_cons, List.drop_zero]
        simp only at e0 e1 e2 e3 e4 e5 e6 e8 e9 e10 e11 e12 e13
        obtain ⟨q7, e7, h7⟩ := e7
        rw [e0, e1, e2, e3, e4, e5, e6, e7, e8, e9, e10, e11, e12, e13]
        clear e0 e1 e2 e3 e4 e5 e6 e7 e8 e9 e10 e11 e12 e13 v0 v1 v2 v3 v4 v5 v6 v7 v8 v9 v10 v11 v12 v13
        have y1 : Ext W (W.alloc (.cells #[.slice A p cap, .slice (some ⟨q7, 0, none⟩) 1 1, .slice (cutA A cap p 4) (n - p) (cap - p)] 22)) := (Ext.refl W).alloc _
        have k0 : (W.alloc (.cells #[.slice A p cap, .slice (some ⟨q7, 0, none⟩) 1 1, .slice (cutA A cap p 4) (n - p) (cap - p)] 22)).cell? ⟨W.heap.size, 0, none⟩ = some (.slice A p cap) := by simp [go_sem]
        have k1 : (W.alloc (.cells #[.slice A p cap, .slice (some ⟨q7, 0, none⟩) 1 1, .slice (cutA A cap p 4) (n - p) (cap - p)] 22)).cell? ⟨W.heap.size, 1, none⟩ = some (.slice (some ⟨q7, 0, none⟩) 1 1) := by simp [go_sem]
        have k2 : (W.alloc (.cells #[.slice A p cap, .slice (some ⟨q7, 0, none⟩) 1 1, .slice (cutA A cap p 4) (n - p) (cap - p)] 22)).cell? ⟨W.heap.size, 2, none⟩ = some (.slice (cutA A cap p 4) (n - p) (cap - p)) := by simp [go_sem]
        go_wp2_with fail
        generalize W.alloc (.cells #[.slice A p cap, .slice (some ⟨q7, 0, none⟩) 1 1, .slice (cutA A cap p 4) (n - p) (cap - p)] 22) = W2 at *
        have hX2 : Ext w W2 := (x0.trans hR).trans y1
        have hE2 := hE1.out.ext (hR.trans y1)
        have hlt : (l.take p).length = p := by rw [List.length_take]; omega
        have hld : (l.drop p).length = n - p := by rw [List.length_drop]; omega
        have hcat : catL [⟨A, cap, l.take p⟩, ⟨some ⟨q7, 0, none⟩, 1, [x]⟩, ⟨cutA A cap p 4, cap - p, l.drop p⟩] = putE l p x := by simp [catL, putE]
        have hcc := concat_any W.heap.size 3 3 [⟨A, cap, l.take p⟩, ⟨some ⟨q7, 0, none⟩, 1, [x]⟩, ⟨cutA A cap p 4, cap - p, l.drop p⟩] W2 (fun j y hj => by
          match j, hj with
          | 0, hj =>
            simp only [List.getElem?_cons_zero, Option.some.injEq] at hj
            subst hj
            exact ⟨by rw [k0, hlt], hE2.take p⟩
          | 1, hj =>
            simp only [List.getElem?_cons_succ, List.getElem?_cons_zero, Option.some.injEq] at hj
            subst hj
            exact ⟨k1, (h7.row).ext y1⟩
          | 2, hj =>
            simp only [List.getElem?_cons_succ, List.getElem?_cons_zero, Option.some.injEq] at hj
            subst hj
            exact ⟨by rw [k2, hld], hE2.cut hn hcap hp⟩
          | j + 3, hj => simp at hj) rfl (by omega) (by simp [sumL]; omega)
        rw [hcat] at hcc
        refine hcc.mono ?_
        rintro e w4 ⟨v4, rfl, o4, x4⟩
        obtain ⟨A4, c4, rfl, hc4, hE4⟩ := OwnE.open o4
        go_wp2_with fail
        refine (partOf_any _ (putE l p x) A4 _ c4 w4 (Nat.le_refl _) hE4 rfl hc4 (by rw [put_len (by omega)]; omega) (hG.ext (hX2.trans x4))).mono ?_
        rintro e w5 ⟨v5, rfl, o5, x5⟩
        go_wp2
        go_ret
        exact ⟨v5, rfl, o5, (hX2.trans x4).trans x5⟩
    · refine softR_val 9 _ (by kernel_rfl) rfl rfl ?_
      intro a W hx hout hdep
      have ev0 : a.tmps[0]?.getD undef = .pointer (some ⟨b, 0, none⟩) := by rw [← Array.getD_eq_getD_getElem?]; exact hout 0 (by show 0 ∉ [9, 10, 11, 12, 13, 14, 15, 16, 17, 18, 19, 20, 21, 22]; decide)
      refine ⟨rfl, .pointer (some ⟨b, 0, none⟩), W, ?_, rfl, Ext.refl _⟩
      simp [ev0, execOp, go_sem]
    · refine softR_val 10 _ (by kernel_rfl) rfl rfl ?_
      intro a W hx hout hdep
      have ev9 : a.tmps[9]?.getD undef = .pointer (some ⟨b, 0, none⟩) := by rw [← Array.getD_eq_getD_getElem?]; exact (hdep ⟨0, .data⟩ (by simp) rfl 9 _ rfl).1
      refine ⟨rfl, .pointer (some ⟨b, 0, none⟩), W, ?_, rfl, Ext.refl _⟩
      simp [ev9, execOp, go_sem]
    · refine softR_val 11 _ (by kernel_rfl) rfl rfl ?_
      intro a W hx hout hdep
      have ev10 : a.tmps[10]?.getD undef = .pointer (some ⟨b, 0, none⟩) := by rw [← Array.getD_eq_getD_getElem?]; exact (hdep ⟨1, .data⟩ (by simp) rfl 10 _ rfl).1
      refine ⟨rfl, .pointer (some ⟨b, 0, none⟩), W, ?_, rfl, Ext.refl _⟩
      simp [ev10, execOp, go_sem]
    · refine softR_val 12 _ (by kernel_rfl) rfl rfl ?_
      intro a W hx hout hdep
      have ev11 : a.tmps[11]?.getD undef = .pointer (some ⟨b, 0, none⟩) := by rw [← Array.getD_eq_getD_getElem?]; exact (hdep ⟨2, .data⟩ (by simp) rfl 11 _ rfl).1
      have q0 := hx.keep c0
      refine ⟨rfl, .slice A n cap, W, ?_, rfl, Ext.refl _⟩
      simp [ev11, q0, execOp, go_sem]
    · refine softR_val 13 _ (by kernel_rfl) rfl rfl ?_
      intro a W hx hout hdep
      have ev1 : a.tmps[1]?.getD undef = Vi (p : Int) := by rw [← Array.getD_eq_getD_getElem?]; exact hout 1 (by show 1 ∉ [9, 10, 11, 12, 13, 14, 15, 16, 17, 18, 19, 20, 21, 22]; decide)
      refine ⟨rfl, Vi (p : Int), W, ?_, rfl, Ext.refl _⟩
      simp [ev1, execOp, go_sem]
    · refine softR_val 14 _ (by kernel_rfl) rfl rfl ?_
      intro a W hx hout hdep
      have ev12 : a.tmps[12]?.getD undef = .slice A n cap := by rw [← Array.getD_eq_getD_getElem?]; exact (hdep ⟨3, .data⟩ (by simp) rfl 12 _ rfl).1
      have ev13 : a.tmps[13]?.getD undef = Vi (p : Int) := by rw [← Array.getD_eq_getD_getElem?]; exact (hdep ⟨4, .data⟩ (by simp) rfl 13 _ rfl).1
      refine ⟨rfl, .slice A p cap, W, ?_, rfl, Ext.refl _⟩
      simp [ev12, ev13, hup, execOp, go_sem]
    · refine softR_val 15 _ (by kernel_rfl) rfl rfl ?_
      intro a W hx hout hdep
      have ev5 : a.tmps[5]?.getD undef = .pointer (some ⟨eb, 0, none⟩) := by rw [← Array.getD_eq_getD_getElem?]; exact hout 5 (by show 5 ∉ [9, 10, 11, 12, 13, 14, 15, 16, 17, 18, 19, 20, 21, 22]; decide)
      have q0 := hx.keep e0
      have q1 := hx.keep e1
      have q2 := hx.keep e2
      have q3 := hx.keep e3
      refine ⟨rfl, env x, W, ?_, rfl, Ext.refl _⟩
      simp [ev5, q0, q1, q2, q3, execOp, go_sem]
    · refine softR_val 16 _ (by kernel_rfl) rfl rfl ?_
      intro a W hx hout hdep
      have ev15 : a.tmps[15]?.getD undef = env x := by rw [← Array.getD_eq_getD_getElem?]; exact (hdep ⟨6, .data⟩ (by simp) rfl 15 _ rfl).1
      refine ⟨rfl, .slice (some ⟨W.heap.size, 0, none⟩) 1 1, _, ?_, ⟨_, rfl, heap_alloc_new W _⟩, (Ext.refl W).alloc _⟩
      simp [ev15, execOp, go_sem]
    · refine softR_val 17 _ (by kernel_rfl) rfl rfl ?_
      intro a W hx hout hdep
      have ev0 : a.tmps[0]?.getD undef = .pointer (some ⟨b, 0, none⟩) := by rw [← Array.getD_eq_getD_getElem?]; exact hout 0 (by show 0 ∉ [9, 10, 11, 12, 13, 14, 15, 16, 17, 18, 19, 20, 21, 22]; decide)
      refine ⟨rfl, .pointer (some ⟨b, 0, none⟩), W, ?_, rfl, Ext.refl _⟩
      simp [ev0, execOp, go_sem]
    · refine softR_val 18 _ (by kernel_rfl) rfl rfl ?_
      intro a W hx hout hdep
      have ev17 : a.tmps[17]?.getD undef = .pointer (some ⟨b, 0, none⟩) := by rw [← Array.getD_eq_getD_getElem?]; exact (hdep ⟨8, .data⟩ (by simp) rfl 17 _ rfl).1
      refine ⟨rfl, .pointer (some ⟨b, 0, none⟩), W, ?_, rfl, Ext.refl _⟩
      simp [ev17, execOp, go_sem]
    · refine softR_val 19 _ (by kernel_rfl) rfl rfl ?_
      intro a W hx hout hdep
      have ev18 : a.tmps[18]?.getD undef = .pointer (some ⟨b, 0, none⟩) := by rw [← Array.getD_eq_getD_getElem?]; exact (hdep ⟨9, .data⟩ (by simp) rfl 18 _ rfl).1
      refine ⟨rfl, .pointer (some ⟨b, 0, none⟩), W, ?_, rfl, Ext.refl _⟩
      simp [ev18, execOp, go_sem]
    · refine softR_val 20 _ (by kernel_rfl) rfl rfl ?_
      intro a W hx hout hdep
      have ev19 : a.tmps[19]?.getD undef = .pointer (some ⟨b, 0, none⟩) := by rw [← Array.getD_eq_getD_getElem?]; exact (hdep ⟨10, .data⟩ (by simp) rfl 19 _ rfl).1
      have q0 := hx.keep c0
      refine ⟨rfl, .slice A n cap, W, ?_, rfl, Ext.refl _⟩
      simp [ev19, q0, execOp, go_sem]
    · refine softR_val 21 _ (by kernel_rfl) rfl rfl ?_
      intro a W hx hout hdep
      have ev1 : a.tmps[1]?.getD undef = Vi (p : Int) := by rw [← Array.getD_eq_getD_getElem?]; exact hout 1 (by show 1 ∉ [9, 10, 11, 12, 13, 14, 15, 16, 17, 18, 19, 20, 21, 22]; decide)
      refine ⟨rfl, Vi (p : Int), W, ?_, rfl, Ext.refl _⟩
      simp [ev1, execOp, go_sem]
    · refine softR_val 22 _ (by kernel_rfl) rfl rfl ?_
      intro a W hx hout hdep
      have ev20 : a.tmps[20]?.getD undef = .slice A n cap := by rw [← Array.getD_eq_getD_getElem?]; exact (hdep ⟨11, .data⟩ (by simp) rfl 20 _ rfl).1
      have ev21 : a.tmps[21]?.getD undef = Vi (p : Int) := by rw [← Array.getD_eq_getD_getElem?]; exact (hdep ⟨12, .data⟩ (by simp) rfl 21 _ rfl).1
      refine ⟨rfl, .slice (cutA A cap p 4) (n - p) (cap - p), W, ?_, rfl, Ext.refl _⟩
      simp [ev20, ev21, hfr, execOp, go_sem]
  | node ta tb iha ihb =>
    rintro b p w ⟨_, ch, lf, rt, ⟨c0, c1, c2, c3, c4, c5, c6, c7⟩, hPV⟩ hG hok hp hb
    obtain ⟨rfl, lp, rp, rfl, rfl, hA, hB⟩ := hPV.node
    have hok : okT (.node ta tb) := by
      rcases hok with h | h
      · cases h
      · exact h
    rw [cnt_node] at hp hb
    have hA' := hA
    obtain ⟨_, _, _, _, ⟨_, _, _, _, l4, _, _, _⟩, _⟩ := hA'
    have x0 : Ext w (w.alloc (.cells #[.int .u32 x.c, .int .u32 x.k, .int .i32 x.ch, .bool x.g] 38)) := (Ext.refl _).alloc _
    obtain ⟨eb, heb⟩ : ∃ eb, w.heap.size = eb := ⟨_, rfl⟩
    obtain ⟨w1, hw1⟩ : ∃ W, w.alloc (.cells #[.int .u32 x.c, .int .u32 x.k, .int .i32 x.ch, .bool x.g] 38) = W := ⟨_, rfl⟩
    have e0 : w1.cell? ⟨eb, 0, none⟩ = some (Vu x.c) := by rw [← hw1, ← heb]; simp [go_sem]
    have e1 : w1.cell? ⟨eb, 1, none⟩ = some (Vu x.k) := by rw [← hw1, ← heb]; simp [go_sem]
    have e2 : w1.cell? ⟨eb, 2, none⟩ = some (.int .i32 x.ch) := by rw [← hw1, ← heb]; simp [go_sem]
    have e3 : w1.cell? ⟨eb, 3, none⟩ = some (.bool x.g) := by rw [← hw1, ← heb]; simp [go_sem]
    rw [hw1] at x0
    have c1 := x0.keep c1
    have c2 := x0.keep c2
    have l4 := x0.keep l4
    have hl := Lib.hid (node_any b lp w1 c1)
    replace hw1 := Lib.hid hw1
    replace heb := Lib.hid heb
    clear c0 c3 c4 c5 c6 c7 hPV
    by_cases hle : p ≤ cnt ta
    · have hca := Lib.hid (fun W (hx : Ext w1 W) => iha lp p W (hA.ext (x0.trans hx)) (hG.ext (x0.trans hx)) (.inr hok.1) hle (by omega))
      have hd : decide ((p : Int) ≤ (cnt ta : Int)) = true := by rw [decide_eq_true_eq]; omega
      have hok1 : okT (putTr ta p x) := putTr_ok ta p x (.inr hok.1)
      have hcn : cnt (putTr ta p x) = cnt ta + 1 := putTr_cnt ta p x hle
      have hres : putTr (.node ta tb) p x = balTr (putTr ta p x) tb := by rw [putTr, if_pos hle]
      rw [hres]
      clear iha ihb hres
      go_enter Try.func24, Try.ntmps24
      go_wp2_with fail
      rw [hw1.out, heb.out]
      refine hl.out.mono ?_
      rintro e w1' ⟨rfl, hw1'⟩
      subst hw1'
      go_wp2_with fail
      refine wp_soft_frame Ext 11 (yu4Tab G b lp rp eb p ta x) (by kernel_rfl) (by kernel_rfl) (fun _ _ _ => Ext.trans) ((Ext.refl _).drew) rfl (by show List.Nodup [35, 36, 37, 38, 39, 40, 41, 42, 43, 44, 45]; decide) (by show ∀ d ∈ [35, 36, 37, 38, 39, 40, 41, 42, 43, 44, 45], d < 67; decide) (yu4Tab_mono G b lp rp eb p ta x Ext (fun _ _ h => h)) ?_ ⟨?_, ?_, ?_, ?_, ?_, ?_, ?_, ?_, ?_, ?_, ?_, trivial⟩
      · intro W vs hT hR
        match vs, hT with
        | [v0, v1, v2, v3, v4, v5, v6, v7, v8, v9, v10], ⟨e0, e1, e2, e3, e4, e5, e6, e7, e8, e9, e10, _⟩ =>
          simp only [yu4Tab, List.map_cons, List.map_nil, List.zip_cons_cons, List.zip_nil_left, putAll, List.setIfInBounds_toArray, List.set_cons_zero, List.set_cons_succ, List.drop_succ_cons, List.drop_zero]
          simp only at e0 e1 e2 e3 e4 e5 e7 e8 e9 e10
          obtain ⟨q6, e6, h6⟩ := e6
          rw [e0, e1, e2, e3, e4, e5, e6, e7, e8, e9, e10]
          clear e0 e1 e2 e3 e4 e5 e6 e7 e8 e9 e10 v0 v1 v2 v3 v4 v5 v6 v7 v8 v9 v10
          go_wp2_with fail
          refine (bal_any h6 (hB.ext (x0.trans hR)) (hG.ext (x0.trans hR)) hok1 hok.2 (by rw [hcn]; omega)).mono ?_
          rintro e w4 ⟨v4, rfl, o4, x4⟩
          go_wp2
          go_ret
          exact ⟨v4, rfl, o4, (x0.trans hR).trans x4⟩
      · refine softR_val 35 _ (by kernel_rfl) rfl rfl ?_
        intro a W hx hout hdep
        have ev0 : a.tmps[0]?.getD undef = .pointer (some ⟨b, 0, none⟩) := by rw [← Array.getD_eq_getD_getElem?]; exact hout 0 (by show 0 ∉ [35, 36, 37, 38, 39, 40, 41, 42, 43, 44, 45]; decide)
        refine ⟨rfl, .pointer (some ⟨b, 0, none⟩), W, ?_, rfl, Ext.refl _⟩
        simp [ev0, execOp, go_sem]
      · refine softR_val 36 _ (by kernel_rfl) rfl rfl ?_
        intro a W hx hout hdep
        have ev35 : a.tmps[35]?.getD undef = .pointer (some ⟨b, 0, none⟩) := by rw [← Array.getD_eq_getD_getElem?]; exact (hdep ⟨0, .data⟩ (by simp) rfl 35 _ rfl).1
        refine ⟨rfl, .pointer (some ⟨b, 0, none⟩), W, ?_, rfl, Ext.refl _⟩
        simp [ev35, execOp, go_sem]
      · refine softR_val 37 _ (by kernel_rfl) rfl rfl ?_
        intro a W hx hout hdep
        have ev36 : a.tmps[36]?.getD undef = .pointer (some ⟨b, 0, none⟩) := by rw [← Array.getD_eq_getD_getElem?]; exact (hdep ⟨1, .data⟩ (by simp) rfl 36 _ rfl).1
        refine ⟨rfl, .pointer (some ⟨b, 1, none⟩), W, ?_, rfl, Ext.refl _⟩
        simp [ev36, execOp, go_sem]
      · refine softR_val 38 _ (by kernel_rfl) rfl rfl ?_
        intro a W hx hout hdep
        have ev37 : a.tmps[37]?.getD undef = .pointer (some ⟨b, 1, none⟩) := by rw [← Array.getD_eq_getD_getElem?]; exact (hdep ⟨2, .data⟩ (by simp) rfl 37 _ rfl).1
        have q0 := hx.keep c1
        refine ⟨rfl, .pointer (some ⟨lp, 0, none⟩), W, ?_, rfl, Ext.refl _⟩
        simp [ev37, q0, execOp, go_sem]
      · refine softR_val 39 _ (by kernel_rfl) rfl rfl ?_
        intro a W hx hout hdep
        have ev1 : a.tmps[1]?.getD undef = Vi (p : Int) := by rw [← Array.getD_eq_getD_getElem?]; exact hout 1 (by show 1 ∉ [35, 36, 37, 38, 39, 40, 41, 42, 43, 44, 45]; decide)
        refine ⟨rfl, Vi (p : Int), W, ?_, rfl, Ext.refl _⟩
        simp [ev1, execOp, go_sem]
      · refine softR_val 40 _ (by kernel_rfl) rfl rfl ?_
        intro a W hx hout hdep
        have ev5 : a.tmps[5]?.getD undef = .pointer (some ⟨eb, 0, none⟩) := by rw [← Array.getD_eq_getD_getElem?]; exact hout 5 (by show 5 ∉ [35, 36, 37, 38, 39, 40, 41, 42, 43, 44, 45]; decide)
        have q0 := hx.keep e0
        have q1 := hx.keep e1
        have q2 := hx.keep e2
        have q3 := hx.keep e3
        refine ⟨rfl, env x, W, ?_, rfl, Ext.refl _⟩
        simp [ev5, q0, q1, q2, q3, execOp, go_sem]
      · refine softR_call 41 _ (by kernel_rfl) rfl rfl ?_
        intro a W hx hout hdep
        have ev38 : a.tmps[38]?.getD undef = .pointer (some ⟨lp, 0, none⟩) := by rw [← Array.getD_eq_getD_getElem?]; exact (hdep ⟨3, .data⟩ (by simp) rfl 38 _ rfl).1
        have ev39 : a.tmps[39]?.getD undef = Vi (p : Int) := by rw [← Array.getD_eq_getD_getElem?]; exact (hdep ⟨4, .data⟩ (by simp) rfl 39 _ rfl).1
        have ev40 : a.tmps[40]?.getD undef = env x := by rw [← Array.getD_eq_getD_getElem?]; exact (hdep ⟨5, .data⟩ (by simp) rfl 40 _ rfl).1
        refine ⟨rfl, 24, #[.pointer (some ⟨lp, 0, none⟩), Vi (p : Int), env x], ?_, ?_⟩
        · simp [ev38, ev39, ev40, execOp, go_sem]
        · exact (hca.out W hx).mono (by rintro e W1 ⟨v, rfl, h1, h2⟩; exact ⟨v, rfl, h1, h2⟩)
      · refine softR_val 42 _ (by kernel_rfl) rfl rfl ?_
        intro a W hx hout hdep
        have ev0 : a.tmps[0]?.getD undef = .pointer (some ⟨b, 0, none⟩) := by rw [← Array.getD_eq_getD_getElem?]; exact hout 0 (by show 0 ∉ [35, 36, 37, 38, 39, 40, 41, 42, 43, 44, 45]; decide)
        refine ⟨rfl, .pointer (some ⟨b, 0, none⟩), W, ?_, rfl, Ext.refl _⟩
        simp [ev0, execOp, go_sem]
      · refine softR_val 43 _ (by kernel_rfl) rfl rfl ?_
        intro a W hx hout hdep
        have ev42 : a.tmps[42]?.getD undef = .pointer (some ⟨b, 0, none⟩) := by rw [← Array.getD_eq_getD_getElem?]; exact (hdep ⟨7, .data⟩ (by simp) rfl 42 _ rfl).1
        refine ⟨rfl, .pointer (some ⟨b, 0, none⟩), W, ?_, rfl, Ext.refl _⟩
        simp [ev42, execOp, go_sem]
      · refine softR_val 44 _ (by kernel_rfl) rfl rfl ?_
        intro a W hx hout hdep
        have ev43 : a.tmps[43]?.getD undef = .pointer (some ⟨b, 0, none⟩) := by rw [← Array.getD_eq_getD_getElem?]; exact (hdep ⟨8, .data⟩ (by simp) rfl 43 _ rfl).1
        refine ⟨rfl, .pointer (some ⟨b, 2, none⟩), W, ?_, rfl, Ext.refl _⟩
        simp [ev43, execOp, go_sem]
      · refine softR_val 45 _ (by kernel_rfl) rfl rfl ?_
        intro a W hx hout hdep
        have ev44 : a.tmps[44]?.getD undef = .pointer (some ⟨b, 2, none⟩) := by rw [← Array.getD_eq_getD_getElem?]; exact (hdep ⟨9, .data⟩ (by simp) rfl 44 _ rfl).1
        have q0 := hx.keep c2
        refine ⟨rfl, .pointer (some ⟨rp, 0, none⟩), W, ?_, rfl, Ext.refl _⟩
        simp [ev44, q0, execOp, go_sem]
    · obtain ⟨m, hm⟩ : ∃ m, p - cnt ta = m := ⟨_, rfl⟩
      have hcb := Lib.hid (fun W (hx : Ext w1 W) => ihb rp m W (hB.ext (x0.trans hx)) (hG.ext (x0.trans hx)) (.inr hok.2) (by omega) (by omega))
      have hd : decide ((p : Int) ≤ (cnt ta : Int)) = false := by rw [decide_eq_false_iff_not]; omega
      have hsub : IntKind.i64.wrap ((p : Int) - (cnt ta : Int)) = (m : Int) := by rw [show ((p : Int) - (cnt ta : Int)) = (m : Int) by omega]; exact IntWalk.i64_in _ (by omega)
      have hok1 : okT (putTr tb m x) := putTr_ok tb m x (.inr hok.2)
      have hcn : cnt (putTr tb m x) = cnt tb + 1 := putTr_cnt tb m x (by omega)
      have hres : putTr (.node ta tb) p x = balTr ta (putTr tb m x) := by rw [putTr, if_neg hle, hm]
      rw [hres]
      clear iha ihb hres
      obtain ⟨na, hna⟩ : ∃ na, cnt ta = na := ⟨_, rfl⟩
      rw [hna] at hsub hd l4 hle hm hp hb
      go_enter Try.func24, Try.ntmps24
      go_wp2_with fail
      rw [hw1.out, heb.out]
      refine hl.out.mono ?_
      rintro e w1' ⟨rfl, hw1'⟩
      subst hw1'
      go_wp2_with fail
      refine wp_soft_frame Ext 19 (yu5Tab G b lp rp eb p na m tb x) (by kernel_rfl) (by kernel_rfl) (fun _ _ _ => Ext.trans) ((Ext.refl _).drew) rfl (by show List.Nodup [47, 48, 49, 50, 51, 52, 53, 54, 55, 56, 57, 58, 59, 60, 61, 62, 63, 64, 65]; decide) (by show ∀ d ∈ [47, 48, 49, 50, 51, 52, 53, 54, 55, 56, 57, 58, 59, 60, 61, 62, 63, 64, 65], d < 67; decide) (yu5Tab_mono G b lp rp eb p na m tb x Ext (fun _ _ h => h)) ?_ ⟨?_, ?_, ?_, ?_, ?_, ?_, ?_, ?_, ?_, ?_, ?_, ?_, ?_, ?_, ?_, ?_, ?_, ?_, ?_, trivial⟩
      · intro W vs hT hR
        match vs, hT with
        | [v0, v1, v2, v3, v4, v5, v6, v7, v8, v9, v10, v11, v12, v13, v14, v15, v16, v17, v18], ⟨e0, e1, e2, e3, e4, e5, e6, e7, e8, e9, e10, e11, e12, e13, e14, e15, e16, e17, e18, _⟩ =>
          simp only [yu5Tab, List.map_cons, List.map_nil, List.zip_cons_cons, List.zip_nil_left, putAll, List.setIfInBounds_toArray, List.set_cons_zero, List.set_cons_succ, List.drop_succ_cons, List.drop_zero]
          simp only at e0 e1 e2 e3 e4 e5 e6 e7 e8 e9 e10 e11 e12 e13 e14 e15 e16 e17
          obtain ⟨q18, e18, h18⟩ := e18
          rw [e0, e1, e2, e3, e4, e5, e6, e7, e8, e9, e10, e11, e12, e13, e14, e15, e16, e17, e18]
          clear e0 e1 e2 e3 e4 e5 e6 e7 e8 e9 e10 e11 e12 e13 e14 e15 e16 e17 e18 v0 v1 v2 v3 v4 v5 v6 v7 v8 v9 v10 v11 v12 v13 v14 v15 v16 v17 v18
          go_wp2_with fail
          refine (bal_any (hA.ext (x0.trans hR)) h18 (hG.ext (x0.trans hR)) hok.1 hok1 (by rw [hcn]; omega)).mono ?_
          rintro e w4 ⟨v4, rfl, o4, x4⟩
          go_wp2
          go_ret
          exact ⟨v4, rfl, o4, (x0.trans hR).trans x4⟩
      · refine softR_val 47 _ (by kernel_rfl) rfl rfl ?_
        intro a W hx hout hdep
        have ev0 : a.tmps[0]?.getD undef = .pointer (some ⟨b, 0, none⟩) := by rw [← Array.getD_eq_getD_getElem?]; exact hout 0 (by show 0 ∉ [47, 48, 49, 50, 51, 52, 53, 54, 55, 56, 57, 58, 59, 60, 61, 62, 63, 64, 65]; decide)
        refine ⟨rfl, .pointer (some ⟨b, 0, none⟩), W, ?_, rfl, Ext.refl _⟩
        simp [ev0, execOp, go_sem]
      · refine softR_val 48 _ (by kernel_rfl) rfl rfl ?_
        intro a W hx hout hdep
        have ev47 : a.tmps[47]?.getD undef = .pointer (some ⟨b, 0, none⟩) := by rw [← Array.getD_eq_getD_getElem?]; exact (hdep ⟨0, .data⟩ (by simp) rfl 47 _ rfl).1
        refine ⟨rfl, .pointer (some ⟨b, 0, none⟩), W, ?_, rfl, Ext.refl _⟩
        simp [ev47, execOp, go_sem]
      · refine softR_val 49 _ (by kernel_rfl) rfl rfl ?_
        intro a W hx hout hdep
        have ev48 : a.tmps[48]?.getD undef = .pointer (some ⟨b, 0, none⟩) := by rw [← Array.getD_eq_getD_getElem?]; exact (hdep ⟨1, .data⟩ (by simp) rfl 48 _ rfl).1
        refine ⟨rfl, .pointer (some ⟨b, 1, none⟩), W, ?_, rfl, Ext.refl _⟩
        simp [ev48, execOp, go_sem]
      · refine softR_val 50 _ (by kernel_rfl) rfl rfl ?_
        intro a W hx hout hdep
        have ev49 : a.tmps[49]?.getD undef = .pointer (some ⟨b, 1, none⟩) := by rw [← Array.getD_eq_getD_getElem?]; exact (hdep ⟨2, .data⟩ (by simp) rfl 49 _ rfl).1
        have q0 := hx.keep c1
        refine ⟨rfl, .pointer (some ⟨lp, 0, none⟩), W, ?_, rfl, Ext.refl _⟩
        simp [ev49, q0, execOp, go_sem]
      · refine softR_val 51 _ (by kernel_rfl) rfl rfl ?_
        intro a W hx hout hdep
        have ev0 : a.tmps[0]?.getD undef = .pointer (some ⟨b, 0, none⟩) := by rw [← Array.getD_eq_getD_getElem?]; exact hout 0 (by show 0 ∉ [47, 48, 49, 50, 51, 52, 53, 54, 55, 56, 57, 58, 59, 60, 61, 62, 63, 64, 65]; decide)
        refine ⟨rfl, .pointer (some ⟨b, 0, none⟩), W, ?_, rfl, Ext.refl _⟩
        simp [ev0, execOp, go_sem]
      · refine softR_val 52 _ (by kernel_rfl) rfl rfl ?_
        intro a W hx hout hdep
        have ev51 : a.tmps[51]?.getD undef = .pointer (some ⟨b, 0, none⟩) := by rw [← Array.getD_eq_getD_getElem?]; exact (hdep ⟨4, .data⟩ (by simp) rfl 51 _ rfl).1
        refine ⟨rfl, .pointer (some ⟨b, 0, none⟩), W, ?_, rfl, Ext.refl _⟩
        simp [ev51, execOp, go_sem]
      · refine softR_val 53 _ (by kernel_rfl) rfl rfl ?_
        intro a W hx hout hdep
        have ev52 : a.tmps[52]?.getD undef = .pointer (some ⟨b, 0, none⟩) := by rw [← Array.getD_eq_getD_getElem?]; exact (hdep ⟨5, .data⟩ (by simp) rfl 52 _ rfl).1
        refine ⟨rfl, .pointer (some ⟨b, 2, none⟩), W, ?_, rfl, Ext.refl _⟩
        simp [ev52, execOp, go_sem]
      · refine softR_val 54 _ (by kernel_rfl) rfl rfl ?_
        intro a W hx hout hdep
        have ev53 : a.tmps[53]?.getD undef = .pointer (some ⟨b, 2, none⟩) := by rw [← Array.getD_eq_getD_getElem?]; exact (hdep ⟨6, .data⟩ (by simp) rfl 53 _ rfl).1
        have q0 := hx.keep c2
        refine ⟨rfl, .pointer (some ⟨rp, 0, none⟩), W, ?_, rfl, Ext.refl _⟩
        simp [ev53, q0, execOp, go_sem]
      · refine softR_val 55 _ (by kernel_rfl) rfl rfl ?_
        intro a W hx hout hdep
        have ev1 : a.tmps[1]?.getD undef = Vi (p : Int) := by rw [← Array.getD_eq_getD_getElem?]; exact hout 1 (by show 1 ∉ [47, 48, 49, 50, 51, 52, 53, 54, 55, 56, 57, 58, 59, 60, 61, 62, 63, 64, 65]; decide)
        refine ⟨rfl, Vi (p : Int), W, ?_, rfl, Ext.refl _⟩
        simp [ev1, execOp, go_sem]
      · refine softR_val 56 _ (by kernel_rfl) rfl rfl ?_
        intro a W hx hout hdep
        have ev0 : a.tmps[0]?.getD undef = .pointer (some ⟨b, 0, none⟩) := by rw [← Array.getD_eq_getD_getElem?]; exact hout 0 (by show 0 ∉ [47, 48, 49, 50, 51, 52, 53, 54, 55, 56, 57, 58, 59, 60, 61, 62, 63, 64, 65]; decide)
        refine ⟨rfl, .pointer (some ⟨b, 0, none⟩), W, ?_, rfl, Ext.refl _⟩
        simp [ev0, execOp, go_sem]
      · refine softR_val 57 _ (by kernel_rfl) rfl rfl ?_
        intro a W hx hout hdep
        have ev56 : a.tmps[56]?.getD undef = .pointer (some ⟨b, 0, none⟩) := by rw [← Array.getD_eq_getD_getElem?]; exact (hdep ⟨9, .data⟩ (by simp) rfl 56 _ rfl).1
        refine ⟨rfl, .pointer (some ⟨b, 0, none⟩), W, ?_, rfl, Ext.refl _⟩
        simp [ev56, execOp, go_sem]
      · refine softR_val 58 _ (by kernel_rfl) rfl rfl ?_
        intro a W hx hout hdep
        have ev57 : a.tmps[57]?.getD undef = .pointer (some ⟨b, 0, none⟩) := by rw [← Array.getD_eq_getD_getElem?]; exact (hdep ⟨10, .data⟩ (by simp) rfl 57 _ rfl).1
        refine ⟨rfl, .pointer (some ⟨b, 1, none⟩), W, ?_, rfl, Ext.refl _⟩
        simp [ev57, execOp, go_sem]
      · refine softR_val 59 _ (by kernel_rfl) rfl rfl ?_
        intro a W hx hout hdep
        have ev58 : a.tmps[58]?.getD undef = .pointer (some ⟨b, 1, none⟩) := by rw [← Array.getD_eq_getD_getElem?]; exact (hdep ⟨11, .data⟩ (by simp) rfl 58 _ rfl).1
        have q0 := hx.keep c1
        refine ⟨rfl, .pointer (some ⟨lp, 0, none⟩), W, ?_, rfl, Ext.refl _⟩
        simp [ev58, q0, execOp, go_sem]
      · refine softR_val 60 _ (by kernel_rfl) rfl rfl ?_
        intro a W hx hout hdep
        have ev59 : a.tmps[59]?.getD undef = .pointer (some ⟨lp, 0, none⟩) := by rw [← Array.getD_eq_getD_getElem?]; exact (hdep ⟨12, .data⟩ (by simp) rfl 59 _ rfl).1
        refine ⟨rfl, .pointer (some ⟨lp, 0, none⟩), W, ?_, rfl, Ext.refl _⟩
        simp [ev59, execOp, go_sem]
      · refine softR_val 61 _ (by kernel_rfl) rfl rfl ?_
        intro a W hx hout hdep
        have ev60 : a.tmps[60]?.getD undef = .pointer (some ⟨lp, 0, none⟩) := by rw [← Array.getD_eq_getD_getElem?]; exact (hdep ⟨13, .data⟩ (by simp) rfl 60 _ rfl).1
        refine ⟨rfl, .pointer (some ⟨lp, 4, none⟩), W, ?_, rfl, Ext.refl _⟩
        simp [ev60, execOp, go_sem]
      · refine softR_val 62 _ (by kernel_rfl) rfl rfl ?_
        intro a W hx hout hdep
        have ev61 : a.tmps[61]?.getD undef = .pointer (some ⟨lp, 4, none⟩) := by rw [← Array.getD_eq_getD_getElem?]; exact (hdep ⟨14, .data⟩ (by simp) rfl 61 _ rfl).1
        have q0 := hx.keep l4
        refine ⟨rfl, Vi (na : Int), W, ?_, rfl, Ext.refl _⟩
        simp [ev61, q0, execOp, go_sem]
      · refine softR_val 63 _ (by kernel_rfl) rfl rfl ?_
        intro a W hx hout hdep
        have ev55 : a.tmps[55]?.getD undef = Vi (p : Int) := by rw [← Array.getD_eq_getD_getElem?]; exact (hdep ⟨8, .data⟩ (by simp) rfl 55 _ rfl).1
        have ev62 : a.tmps[62]?.getD undef = Vi (na : Int) := by rw [← Array.getD_eq_getD_getElem?]; exact (hdep ⟨15, .data⟩ (by simp) rfl 62 _ rfl).1
        refine ⟨rfl, Vi (m : Int), W, ?_, rfl, Ext.refl _⟩
        simp [ev55, ev62, hsub, execOp, go_sem]
      · refine softR_val 64 _ (by kernel_rfl) rfl rfl ?_
        intro a W hx hout hdep
        have ev5 : a.tmps[5]?.getD undef = .pointer (some ⟨eb, 0, none⟩) := by rw [← Array.getD_eq_getD_getElem?]; exact hout 5 (by show 5 ∉ [47, 48, 49, 50, 51, 52, 53, 54, 55, 56, 57, 58, 59, 60, 61, 62, 63, 64, 65]; decide)
        have q0 := hx.keep e0
        have q1 := hx.keep e1
        have q2 := hx.keep e2
        have q3 := hx.keep e3
        refine ⟨rfl, env x, W, ?_, rfl, Ext.refl _⟩
        simp [ev5, q0, q1, q2, q3, execOp, go_sem]
      · refine softR_call 65 _ (by kernel_rfl) rfl rfl ?_
        intro a W hx hout hdep
        have ev54 : a.tmps[54]?.getD undef = .pointer (some ⟨rp, 0, none⟩) := by rw [← Array.getD_eq_getD_getElem?]; exact (hdep ⟨7, .data⟩ (by simp) rfl 54 _ rfl).1
        have ev63 : a.tmps[63]?.getD undef = Vi (m : Int) := by rw [← Array.getD_eq_getD_getElem?]; exact (hdep ⟨16, .data⟩ (by simp) rfl 63 _ rfl).1
        have ev64 : a.tmps[64]?.getD undef = env x := by rw [← Array.getD_eq_getD_getElem?]; exact (hdep ⟨17, .data⟩ (by simp) rfl 64 _ rfl).1
        refine ⟨rfl, 24, #[.pointer (some ⟨rp, 0, none⟩), Vi (m : Int), env x], ?_, ?_⟩
        · simp [ev54, ev63, ev64, execOp, go_sem]
        · exact (hcb.out W hx).mono (by rintro e W1 ⟨v, rfl, h1, h2⟩; exact ⟨v, rfl, h1, h2⟩)

set_option maxRecDepth 100000 in
set_option maxHeartbeats 16000000 in
theorem hide_any {G : Nat → Prop} : ∀ (t : Tr) (b p : Nat) (w : World), AtP G w b t → Up G w → (t = .leaf [] ∨ okT t) → p < cnt t → cnt t ≤ 50000 →
    Calls Try.prog 23 #[Vp b, Vi (p : Int)] w (RetN G w (hideTr t p)) := by
  intro t
  induction t with
  | leaf l =>
    rintro b p w ⟨_, ch, lf, rt, ⟨c0, c1, c2, c3, c4, c5, c6, c7⟩, rfl, rfl, A, cap, rfl, hcap, hE, _⟩ hG hok hp hb
    have hp : p < l.length := hp
    have hb : l.length ≤ 50000 := hb
    obtain ⟨x, hx⟩ : ∃ x, l[p]? = some x := ⟨l[p], List.getElem?_eq_getElem hp⟩
    have hcl := Lib.hid (clone_any A l.length cap l w hE rfl (by omega))
    have hl := Lib.hid (leaf_any b w c1)
    have hres : hideTr (.leaf l) p = .leaf (l.set p { x with g := true }) := by rw [hideTr, gone_set hx]
    rw [hres]
    clear hE c1 c2 c3 c4 c5 c6 c7 hres
    go_enter Try.func23, Try.ntmps23
    go_wp2_with fail
    refine hl.out.mono ?_
    rintro e w1 ⟨rfl, hw1⟩
    subst hw1
    go_wp2_with fail
    refine hcl.out.mono ?_
    rintro e w2 ⟨v2, rfl, o2, x2⟩
    obtain ⟨g, cc, rfl, hg, hg2⟩ := OwnE.block o2 (by omega)
    obtain ⟨o3, g3, f3⟩ := OwnE.hide o2 hx
    have k3 : w2.cell? ⟨g, p * 4 + 3, none⟩ = some (.bool x.g) := by
      obtain ⟨A', c', e, _, hE2⟩ := OwnE.open o2
      injection e with e1
      subst e1
      obtain ⟨b', o', x', e, hx', hc⟩ := hE2.at hp
      injection e with e
      injection e with e1 e2
      subst e1
      subst e2
      rw [hx] at hx'
      injection hx' with hx'
      subst hx'
      have := hc.c3
      rwa [Nat.zero_add] at this
    have x3 : Ext w (w2.setCell ⟨g, p * 4 + 3, none⟩ (.bool true)) := Ext.setCell x2 hg _
    have hlen : (l.set p { x with g := true }).length ≤ 100000 := by rw [List.length_set]; omega
    have hi1 : (0 : Int) ≤ (p : Int) := by omega
    have hi2 : (p : Int) < (l.length : Int) := by omega
    have hch := Lib.hid (chunkOwn_any o3 hlen hG x3)
    clear o2 o3 g3
    go_wp2_with fail
    refine hch.out.mono ?_
    rintro e w5 ⟨v5, rfl, o5, x5⟩
    go_wp2
    go_ret
    exact ⟨v5, rfl, o5, x3.trans x5⟩
  | node ta tb iha ihb =>
    rintro b p w ⟨_, ch, lf, rt, ⟨c0, c1, c2, c3, c4, c5, c6, c7⟩, hPV⟩ hG hok hp hb
    obtain ⟨rfl, lp, rp, rfl, rfl, hA, hB⟩ := hPV.node
    have hok : okT (.node ta tb) := by
      rcases hok with h | h
      · cases h
      · exact h
    rw [cnt_node] at hp hb
    have hA' := hA
    obtain ⟨_, _, _, _, ⟨_, _, _, _, l4, _, _, _⟩, _⟩ := hA'
    have hl := Lib.hid (node_any b lp w c1)
    clear c0 c3 c4 c5 c6 c7 hPV
    by_cases hle : p < cnt ta
    · have hca := Lib.hid (fun W (hx : Ext w W) => iha lp p W (hA.ext hx) (hG.ext hx) (.inr hok.1) hle (by omega))
      have hd : decide ((p : Int) < (cnt ta : Int)) = true := by rw [decide_eq_true_eq]; omega
      have hres : hideTr (.node ta tb) p = .node (hideTr ta p) tb := by rw [hideTr, if_pos hle]
      rw [hres]
      clear iha ihb hres
      go_enter Try.func23, Try.ntmps23
      go_wp2_with fail
      refine hl.out.mono ?_
      rintro e w1 ⟨rfl, hw1⟩
      subst hw1
      go_wp2_with fail
      refine wp_soft_frame Ext 10 (yh6Tab G b lp rp p ta) (by kernel_rfl) (by kernel_rfl) (fun _ _ _ => Ext.trans) ((Ext.refl _).drew) rfl (by show List.Nodup [28, 29, 30, 31, 32, 33, 34, 35, 36, 37]; decide) (by show ∀ d ∈ [28, 29, 30, 31, 32, 33, 34, 35, 36, 37], d < 58; decide) (yh6Tab_mono G b lp rp p ta Ext (fun _ _ h => h)) ?_ ⟨?_, ?_, ?_, ?_, ?_, ?_, ?_, ?_, ?_, ?_, trivial⟩
      · intro W vs hT hR
        match vs, hT with
        | [v0, v1, v2, v3, v4, v5, v6, v7, v8, v9], ⟨e0, e1, e2, e3, e4, e5, e6, e7, e8, e9, _⟩ =>
          simp only [yh6Tab, List.map_cons, List.map_nil, List.zip_cons_cons, List.zip_nil_left, putAll, List.setIfInBounds_toArray, List.set_cons_zero, List.set_cons_succ, List.drop_succ_cons, List.drop_zero]
          simp only at e0 e1 e2 e3 e4 e6 e7 e8 e9
          obtain ⟨q5, e5, h5⟩ := e5
          rw [e0, e1, e2, e3, e4, e5, e6, e7, e8, e9]
          clear e0 e1 e2 e3 e4 e5 e6 e7 e8 e9 v0 v1 v2 v3 v4 v5 v6 v7 v8 v9
          go_wp2_with fail
          refine (join_any h5 (hB.ext hR) (hG.ext hR) (hideTr_ok _ _ hok.1) hok.2 (by rw [hideTr_cnt]; omega)).mono ?_
          rintro e w4 ⟨v4, rfl, o4, x4⟩
          go_wp2
          go_ret
          exact ⟨v4, rfl, o4, hR.trans x4⟩
      · refine softR_val 28 _ (by kernel_rfl) rfl rfl ?_
        intro a W hx hout hdep
        have ev0 : a.tmps[0]?.getD undef = .pointer (some ⟨b, 0, none⟩) := by rw [← Array.getD_eq_getD_getElem?]; exact hout 0 (by show 0 ∉ [28, 29, 30, 31, 32, 33, 34, 35, 36, 37]; decide)
        refine ⟨rfl, .pointer (some ⟨b, 0, none⟩), W, ?_, rfl, Ext.refl _⟩
        simp [ev0, execOp, go_sem]
      · refine softR_val 29 _ (by kernel_rfl) rfl rfl ?_
        intro a W hx hout hdep
        have ev28 : a.tmps[28]?.getD undef = .pointer (some ⟨b, 0, none⟩) := by rw [← Array.getD_eq_getD_getElem?]; exact (hdep ⟨0, .data⟩ (by simp) rfl 28 _ rfl).1
        refine ⟨rfl, .pointer (some ⟨b, 0, none⟩), W, ?_, rfl, Ext.refl _⟩
        simp [ev28, execOp, go_sem]
      · refine softR_val 30 _ (by kernel_rfl) rfl rfl ?_
        intro a W hx hout hdep
        have ev29 : a.tmps[29]?.getD undef = .pointer (some ⟨b, 0, none⟩) := by rw [← Array.getD_eq_getD_getElem?]; exact (hdep ⟨1, .data⟩ (by simp) rfl 29 _ rfl).1
        refine ⟨rfl, .pointer (some ⟨b, 1, none⟩), W, ?_, rfl, Ext.refl _⟩
        simp [ev29, execOp, go_sem]
      · refine softR_val 31 _ (by kernel_rfl) rfl rfl ?_
        intro a W hx hout hdep
        have ev30 : a.tmps[30]?.getD undef = .pointer (some ⟨b, 1, none⟩) := by rw [← Array.getD_eq_getD_getElem?]; exact (hdep ⟨2, .data⟩ (by simp) rfl 30 _ rfl).1
        have q0 := hx.keep c1
        refine ⟨rfl, .pointer (some ⟨lp, 0, none⟩), W, ?_, rfl, Ext.refl _⟩
        simp [ev30, q0, execOp, go_sem]
      · refine softR_val 32 _ (by kernel_rfl) rfl rfl ?_
        intro a W hx hout hdep
        have ev1 : a.tmps[1]?.getD undef = Vi (p : Int) := by rw [← Array.getD_eq_getD_getElem?]; exact hout 1 (by show 1 ∉ [28, 29, 30, 31, 32, 33, 34, 35, 36, 37]; decide)
        refine ⟨rfl, Vi (p : Int), W, ?_, rfl, Ext.refl _⟩
        simp [ev1, execOp, go_sem]
      · refine softR_call 33 _ (by kernel_rfl) rfl rfl ?_
        intro a W hx hout hdep
        have ev31 : a.tmps[31]?.getD undef = .pointer (some ⟨lp, 0, none⟩) := by rw [← Array.getD_eq_getD_getElem?]; exact (hdep ⟨3, .data⟩ (by simp) rfl 31 _ rfl).1
        have ev32 : a.tmps[32]?.getD undef = Vi (p : Int) := by rw [← Array.getD_eq_getD_getElem?]; exact (hdep ⟨4, .data⟩ (by simp) rfl 32 _ rfl).1
        refine ⟨rfl, 23, #[.pointer (some ⟨lp, 0, none⟩), Vi (p : Int)], ?_, ?_⟩
        · simp [ev31, ev32, execOp, go_sem]
        · exact (hca.out W hx).mono (by rintro e W1 ⟨v, rfl, h1, h2⟩; exact ⟨v, rfl, h1, h2⟩)
      · refine softR_val 34 _ (by kernel_rfl) rfl rfl ?_
        intro a W hx hout hdep
        have ev0 : a.tmps[0]?.getD undef = .pointer (some ⟨b, 0, none⟩) := by rw [← Array.getD_eq_getD_getElem?]; exact hout 0 (by show 0 ∉ [28, 29, 30, 31, 32, 33, 34, 35, 36, 37]; decide)
        refine ⟨rfl, .pointer (some ⟨b, 0, none⟩), W, ?_, rfl, Ext.refl _⟩
        simp [ev0, execOp, go_sem]
      · refine softR_val 35 _ (by kernel_rfl) rfl rfl ?_
        intro a W hx hout hdep
        have ev34 : a.tmps[34]?.getD undef = .pointer (some ⟨b, 0, none⟩) := by rw [← Array.getD_eq_getD_getElem?]; exact (hdep ⟨6, .data⟩ (by simp) rfl 34 _ rfl).1
        refine ⟨rfl, .pointer (some ⟨b, 0, none⟩), W, ?_, rfl, Ext.refl _⟩
        simp [ev34, execOp, go_sem]
      · refine softR_val 36 _ (by kernel_rfl) rfl rfl ?_
        intro a W hx hout hdep
        have ev35 : a.tmps[35]?.getD undef = .pointer (some ⟨b, 0, none⟩) := by rw [← Array.getD_eq_getD_getElem?]; exact (hdep ⟨7, .data⟩ (by simp) rfl 35 _ rfl).1
        refine ⟨rfl, .pointer (some ⟨b, 2, none⟩), W, ?_, rfl, Ext.refl _⟩
        simp [ev35, execOp, go_sem]
      · refine softR_val 37 _ (by kernel_rfl) rfl rfl ?_
        intro a W hx hout hdep
        have ev36 : a.tmps[36]?.getD undef = .pointer (some ⟨b, 2, none⟩) := by rw [← Array.getD_eq_getD_getElem?]; exact (hdep ⟨8, .data⟩ (by simp) rfl 36 _ rfl).1
        have q0 := hx.keep c2
        refine ⟨rfl, .pointer (some ⟨rp, 0, none⟩), W, ?_, rfl, Ext.refl _⟩
        simp [ev36, q0, execOp, go_sem]
    · obtain ⟨m, hm⟩ : ∃ m, p - cnt ta = m := ⟨_, rfl⟩
      have hcb := Lib.hid (fun W (hx : Ext w W) => ihb rp m W (hB.ext hx) (hG.ext hx) (.inr hok.2) (by omega) (by omega))
      have hd : decide ((p : Int) < (cnt ta : Int)) = false := by rw [decide_eq_false_iff_not]; omega
      have hsub : IntKind.i64.wrap ((p : Int) - (cnt ta : Int)) = (m : Int) := by rw [show ((p : Int) - (cnt ta : Int)) = (m : Int) by omega]; exact IntWalk.i64_in _ (by omega)
      have hres : hideTr (.node ta tb) p = .node ta (hideTr tb m) := by rw [hideTr, if_neg hle, hm]
      rw [hres]
      clear iha ihb hres
      obtain ⟨na, hna⟩ : ∃ na, cnt ta = na := ⟨_, rfl⟩
      rw [hna] at hsub hd l4 hle hm hp hb
      go_enter Try.func23, Try.ntmps23
      go_wp2_with fail
      refine hl.out.mono ?_
      rintro e w1 ⟨rfl, hw1⟩
      subst hw1
      go_wp2_with fail
      refine wp_soft_frame Ext 18 (yh7Tab G b lp rp p na m tb) (by kernel_rfl) (by kernel_rfl) (fun _ _ _ => Ext.trans) ((Ext.refl _).drew) rfl (by show List.Nodup [39, 40, 41, 42, 43, 44, 45, 46, 47, 48, 49, 50, 51, 52, 53, 54, 55, 56]; decide) (by show ∀ d ∈ [39, 40, 41, 42, 43, 44, 45, 46, 47, 48, 49, 50, 51, 52, 53, 54, 55, 56], d < 58; decide) (yh7Tab_mono G b lp rp p na m tb Ext (fun _ _ h => h)) ?_ ⟨?_, ?_, ?_, ?_, ?_, ?_, ?_, ?_, ?_, ?_, ?_, ?_, ?_, ?_, ?_, ?_, ?_, ?_, trivial⟩
      · intro W vs hT hR
        match vs, hT with
        | [v0, v1, v2, v3, v4, v5, v6, v7, v8, v9, v10, v11, v12, v13, v14, v15, v16, v17], ⟨e0, e1, e2, e3, e4, e5, e6, e7, e8, e9, e10, e11, e12, e13, e14, e15, e16, e17, _⟩ =>
          simp only [yh7Tab, List.map_cons, List.map_nil, List.zip_cons_cons, List.zip_nil_left, putAll, List.setIfInBounds_toArray, List.set_cons_zero, List.set_cons_succ, List.drop_succ_cons, List.drop_zero]
          simp only at e0 e1 e2 e3 e4 e5 e6 e7 e8 e9 e10 e11 e12 e13 e14 e15 e16
          obtain ⟨q17, e17, h17⟩ := e17
          rw [e0, e1, e2, e3, e4, e5, e6, e7, e8, e9, e10, e11, e12, e13, e14, e15, e16, e17]
          clear e0 e1 e2 e3 e4 e5 e6 e7 e8 e9 e10 e11 e12 e13 e14 e15 e16 e17 v0 v1 v2 v3 v4 v5 v6 v7 v8 v9 v10 v11 v12 v13 v14 v15 v16 v17
          go_wp2_with fail
          refine (join_any (hA.ext hR) h17 (hG.ext hR) hok.1 (hideTr_ok _ _ hok.2) (by rw [hideTr_cnt]; omega)).mono ?_
          rintro e w4 ⟨v4, rfl, o4, x4⟩
          go_wp2
          go_ret
          exact ⟨v4, rfl, o4, hR.trans x4⟩
      · refine softR_val 39 _ (by kernel_rfl) rfl rfl ?_
        intro a W hx hout hdep
        have ev0 : a.tmps[0]?.getD undef = .pointer (some ⟨b, 0, none⟩) := by rw [← Array.getD_eq_getD_getElem?]; exact hout 0 (by show 0 ∉ [39, 40, 41, 42, 43, 44, 45, 46, 47, 48, 49, 50, 51, 52, 53, 54, 55, 56]; decide)
        refine ⟨rfl, .pointer (some ⟨b, 0, none⟩), W, ?_, rfl, Ext.refl _⟩
        simp [ev0, execOp, go_sem]
      · refine softR_val 40 _ (by kernel_rfl) rfl rfl ?_
        intro a W hx hout hdep
        have ev39 : a.tmps[39]?.getD undef = .pointer (some ⟨b, 0, none⟩) := by rw [← Array.getD_eq_getD_getElem?]; exact (hdep ⟨0, .data⟩ (by simp) rfl 39 _ rfl).1
        refine ⟨rfl, .pointer (some ⟨b, 0, none⟩), W, ?_, rfl, Ext.refl _⟩
        simp [ev39, execOp, go_sem]
      · refine softR_val 41 _ (by kernel_rfl) rfl rfl ?_
        intro a W hx hout hdep
        have ev40 : a.tmps[40]?.getD undef = .pointer (some ⟨b, 0, none⟩) := by rw [← Array.getD_eq_getD_getElem?]; exact (hdep ⟨1, .data⟩ (by simp) rfl 40 _ rfl).1
        refine ⟨rfl, .pointer (some ⟨b, 1, none⟩), W, ?_, rfl, Ext.refl _⟩
        simp [ev40, execOp, go_sem]
      · refine softR_val 42 _ (by kernel_rfl) rfl rfl ?_
        intro a W hx hout hdep
        have ev41 : a.tmps[41]?.getD undef = .pointer (some ⟨b, 1, none⟩) := by rw [← Array.getD_eq_getD_getElem?]; exact (hdep ⟨2, .data⟩ (by simp) rfl 41 _ rfl).1
        have q0 := hx.keep c1
        refine ⟨rfl, .pointer (some ⟨lp, 0, none⟩), W, ?_, rfl, Ext.refl _⟩
        simp [ev41, q0, execOp, go_sem]
      · refine softR_val 43 _ (by kernel_rfl) rfl rfl ?_
        intro a W hx hout hdep
        have ev0 : a.tmps[0]?.getD undef = .pointer (some ⟨b, 0, none⟩) := by rw [← Array.getD_eq_getD_getElem?]; exact hout 0 (by show 0 ∉ [39, 40, 41, 42, 43, 44, 45, 46, 47, 48, 49, 50, 51, 52, 53, 54, 55, 56]; decide)
        refine ⟨rfl, .pointer (some ⟨b, 0, none⟩), W, ?_, rfl, Ext.refl _⟩
        simp [ev0, execOp, go_sem]
      · refine softR_val 44 _ (by kernel_rfl) rfl rfl ?_
        intro a W hx hout hdep
        have ev43 : a.tmps[43]?.getD undef = .pointer (some ⟨b, 0, none⟩) := by rw [← Array.getD_eq_getD_getElem?]; exact (hdep ⟨4, .data⟩ (by simp) rfl 43 _ rfl).1
        refine ⟨rfl, .pointer (some ⟨b, 0, none⟩), W, ?_, rfl, Ext.refl _⟩
        simp [ev43, execOp, go_sem]
      · refine softR_val 45 _ (by kernel_rfl) rfl rfl ?_
        intro a W hx hout hdep
        have ev44 : a.tmps[44]?.getD undef = .pointer (some ⟨b, 0, none⟩) := by rw [← Array.getD_eq_getD_getElem?]; exact (hdep ⟨5, .data⟩ (by simp) rfl 44 _ rfl).1
        refine ⟨rfl, .pointer (some ⟨b, 2, none⟩), W, ?_, rfl, Ext.refl _⟩
        simp [ev44, execOp, go_sem]
      · refine softR_val 46 _ (by kernel_rfl) rfl rfl ?_
        intro a W hx hout hdep
        have ev45 : a.tmps[45]?.getD undef = .pointer (some ⟨b, 2, none⟩) := by rw [← Array.getD_eq_getD_getElem?]; exact (hdep ⟨6, .data⟩ (by simp) rfl 45 _ rfl).1
        have q0 := hx.keep c2
        refine ⟨rfl, .pointer (some ⟨rp, 0, none⟩), W, ?_, rfl, Ext.refl _⟩
        simp [ev45, q0, execOp, go_sem]
      · refine softR_val 47 _ (by kernel_rfl) rfl rfl ?_
        intro a W hx hout hdep
        have ev1 : a.tmps[1]?.getD undef = Vi (p : Int) := by rw [← Array.getD_eq_getD_getElem?]; exact hout 1 (by show 1 ∉ [39, 40, 41, 42, 43, 44, 45, 46, 47, 48, 49, 50, 51, 52, 53, 54, 55, 56]; decide)
        refine ⟨rfl, Vi (p : Int), W, ?_, rfl, Ext.refl _⟩
        simp [ev1, execOp, go_sem]
      · refine softR_val 48 _ (by kernel_rfl) rfl rfl ?_
        intro a W hx hout hdep
        have ev0 : a.tmps[0]?.getD undef = .pointer (some ⟨b, 0, none⟩) := by rw [← Array.getD_eq_getD_getElem?]; exact hout 0 (by show 0 ∉ [39, 40, 41, 42, 43, 44, 45, 46, 47, 48, 49, 50, 51, 52, 53, 54, 55, 56]; decide)
        refine ⟨rfl, .pointer (some ⟨b, 0, none⟩), W, ?_, rfl, Ext.refl _⟩
        simp [ev0, execOp, go_sem]
      · refine softR_val 49 _ (by kernel_rfl) rfl rfl ?_
        intro a W hx hout hdep
        have ev48 : a.tmps[48]?.getD undef = .pointer (some ⟨b, 0, none⟩) := by rw [← Array.getD_eq_getD_getElem?]; exact (hdep ⟨9, .data⟩ (by simp) rfl 48 _ rfl).1
        refine ⟨rfl, .pointer (some ⟨b, 0, none⟩), W, ?_, rfl, Ext.refl _⟩
        simp [ev48, execOp, go_sem]
      · refine softR_val 50 _ (by kernel_rfl) rfl rfl ?_
        intro a W hx hout hdep
        have ev49 : a.tmps[49]?.getD undef = .pointer (some ⟨b, 0, none⟩) := by rw [← Array.getD_eq_getD_getElem?]; exact (hdep ⟨10, .data⟩ (by simp) rfl 49 _ rfl).1
        refine ⟨rfl, .pointer (some ⟨b, 1, none⟩), W, ?_, rfl, Ext.refl _⟩
        simp [ev49, execOp, go_sem]
      · refine softR_val 51 _ (by kernel_rfl) rfl rfl ?_
        intro a W hx hout hdep
        have ev50 : a.tmps[50]?.getD undef = .pointer (some ⟨b, 1, none⟩) := by rw [← Array.getD_eq_getD_getElem?]; exact (hdep ⟨11, .data⟩ (by simp) rfl 50 _ rfl).1
        have q0 := hx.keep c1
        refine ⟨rfl, .pointer (some ⟨lp, 0, none⟩), W, ?_, rfl, Ext.refl _⟩
        simp [ev50, q0, execOp, go_sem]
      · refine softR_val 52 _ (by kernel_rfl) rfl rfl ?_
        intro a W hx hout hdep
        have ev51 : a.tmps[51]?.getD undef = .pointer (some ⟨lp, 0, none⟩) := by rw [← Array.getD_eq_getD_getElem?]; exact (hdep ⟨12, .data⟩ (by simp) rfl 51 _ rfl).1
        refine ⟨rfl, .pointer (some ⟨lp, 0, none⟩), W, ?_, rfl, Ext.refl _⟩
        simp [ev51, execOp, go_sem]
      · refine softR_val 53 _ (by kernel_rfl) rfl rfl ?_
        intro a W hx hout hdep
        have ev52 : a.tmps[52]?.getD undef = .pointer (some ⟨lp, 0, none⟩) := by rw [← Array.getD_eq_getD_getElem?]; exact (hdep ⟨13, .data⟩ (by simp) rfl 52 _ rfl).1
        refine ⟨rfl, .pointer (some ⟨lp, 4, none⟩), W, ?_, rfl, Ext.refl _⟩
        simp [ev52, execOp, go_sem]
      · refine softR_val 54 _ (by kernel_rfl) rfl rfl ?_
        intro a W hx hout hdep
        have ev53 : a.tmps[53]?.getD undef = .pointer (some ⟨lp, 4, none⟩) := by rw [← Array.getD_eq_getD_getElem?]; exact (hdep ⟨14, .data⟩ (by simp) rfl 53 _ rfl).1
        have q0 := hx.keep l4
        refine ⟨rfl, Vi (na : Int), W, ?_, rfl, Ext.refl _⟩
        simp [ev53, q0, execOp, go_sem]
      · refine softR_val 55 _ (by kernel_rfl) rfl rfl ?_
        intro a W hx hout hdep
        have ev47 : a.tmps[47]?.getD undef = Vi (p : Int) := by rw [← Array.getD_eq_getD_getElem?]; exact (hdep ⟨8, .data⟩ (by simp) rfl 47 _ rfl).1
        have ev54 : a.tmps[54]?.getD undef = Vi (na : Int) := by rw [← Array.getD_eq_getD_getElem?]; exact (hdep ⟨15, .data⟩ (by simp) rfl 54 _ rfl).1
        refine ⟨rfl, Vi (m : Int), W, ?_, rfl, Ext.refl _⟩
        simp [ev47, ev54, hsub, execOp, go_sem]
      · refine softR_call 56 _ (by kernel_rfl) rfl rfl ?_
        intro a W hx hout hdep
        have ev46 : a.tmps[46]?.getD undef = .pointer (some ⟨rp, 0, none⟩) := by rw [← Array.getD_eq_getD_getElem?]; exact (hdep ⟨7, .data⟩ (by simp) rfl 46 _ rfl).1
        have ev55 : a.tmps[55]?.getD undef = Vi (m : Int) := by rw [← Array.getD_eq_getD_getElem?]; exact (hdep ⟨16, .data⟩ (by simp) rfl 55 _ rfl).1
        refine ⟨rfl, 23, #[.pointer (some ⟨rp, 0, none⟩), Vi (m : Int)], ?_, ?_⟩
        · simp [ev46, ev55, execOp, go_sem]
        · exact (hcb.out W hx).mono (by rintro e W1 ⟨v, rfl, h1, h2⟩; exact ⟨v, rfl, h1, h2⟩)

end Go.Proofs.Ytanknhalgoheeaa
