/-
  Several texts of this seat in one file, each in the namespace again; no claim stands here.
-/
import Derived.Test.YtmpomammieenjaaOS
import Derived.Test.YtmpomammieenjaaOT
import Derived.Test.YtmpomammieenjaaOA2
import Derived.Test.YtmpomammieenjaaXKm
import Derived.Test.YtmpomammieenjaaOZ
namespace Go.Proofs.Ytmpomammieenjaa
open Go.ChangeShapes Go.WideShapes Go.ChangeAt Go.RowKit Go.Sort
set_option linter.unusedVariables false
set_option linter.unusedSimpArgs false
set_option linter.unusedSimpArgs false
attribute [local go_sem] World.cell?_alloc_some

def hmTab2 (G : Nat → Prop) (ad : I2 → Nat) (ba na nb : Nat) (vx vy vr : Value) (x y r : HT) (a b : I2) : SoftTab := [(19, fun z9 W => z9 = .pointer (some ⟨ba, 0, none⟩)),
  (20, fun z9 W => z9 = .pointer (some ⟨ba, 0, none⟩)),
  (21, fun z9 W => z9 = .pointer (some ⟨ba, 1, none⟩)),
  (22, fun z9 W => z9 = vx),
  (23, fun z9 W => z9 = .pointer (some ⟨ba, 0, none⟩)),
  (24, fun z9 W => z9 = .pointer (some ⟨ba, 0, none⟩)),
  (25, fun z9 W => z9 = .pointer (some ⟨ba, 0, none⟩)),
  (26, fun z9 W => z9 = .pointer (some ⟨nb, 0, none⟩)),
  (27, fun z9 W => z9 = .pointer (some ⟨ba, 0, none⟩)),
  (28, fun z9 W => z9 = .pointer (some ⟨ba, 0, none⟩)),
  (29, fun z9 W => z9 = .pointer (some ⟨ba, 2, none⟩)),
  (30, fun z9 W => z9 = vy),
  (31, fun z9 W => z9 = Vp na),
  (32, fun z9 W => z9 = vr),
  (33, fun z9 W => ∃ q, z9 = q ∧ HV G W ad (.node y a r) q)]
theorem hmTab2_mono (G : Nat → Prop) (ad : I2 → Nat) (ba na nb : Nat) (vx vy vr : Value) (x y r : HT) (a b : I2) (Rel : World → World → Prop) (hR : ∀ W W', Rel W W' → Ext W W') : SoftMonoR Rel (hmTab2 G ad ba na nb vx vy vr x y r a b) := by
  intro p hp v W W' h hx
  simp only [hmTab2, List.mem_cons, List.not_mem_nil, or_false] at hp
  rcases hp with rfl | rfl | rfl | rfl | rfl | rfl | rfl | rfl | rfl | rfl | rfl | rfl | rfl | rfl | rfl
  all_goals first
    | exact h
    | exact (by obtain ⟨q, h1, h2⟩ := h; exact ⟨q, h1, HV.ext (hR _ _ hx) h2⟩)

def hmTab4 (G : Nat → Prop) (ad : I2 → Nat) (ba na nb bc nc : Nat) (vx vr vu vz : Value) (x u z r : HT) (a b c : I2) : SoftTab := [(39, fun z9 W => z9 = .pointer (some ⟨ba, 0, none⟩)),
  (40, fun z9 W => z9 = .pointer (some ⟨ba, 0, none⟩)),
  (41, fun z9 W => z9 = .pointer (some ⟨ba, 1, none⟩)),
  (42, fun z9 W => z9 = vx),
  (43, fun z9 W => z9 = .pointer (some ⟨ba, 0, none⟩)),
  (44, fun z9 W => z9 = .pointer (some ⟨ba, 0, none⟩)),
  (45, fun z9 W => z9 = .pointer (some ⟨ba, 0, none⟩)),
  (46, fun z9 W => z9 = .pointer (some ⟨nb, 0, none⟩)),
  (47, fun z9 W => z9 = .pointer (some ⟨bc, 0, none⟩)),
  (48, fun z9 W => z9 = .pointer (some ⟨bc, 0, none⟩)),
  (49, fun z9 W => z9 = .pointer (some ⟨bc, 1, none⟩)),
  (50, fun z9 W => z9 = vu),
  (51, fun z9 W => ∃ q, z9 = q ∧ HV G W ad (.node x b u) q),
  (52, fun z9 W => z9 = .pointer (some ⟨bc, 0, none⟩)),
  (53, fun z9 W => z9 = .pointer (some ⟨bc, 0, none⟩)),
  (54, fun z9 W => z9 = .pointer (some ⟨bc, 0, none⟩)),
  (55, fun z9 W => z9 = .pointer (some ⟨nc, 0, none⟩)),
  (56, fun z9 W => z9 = .pointer (some ⟨bc, 0, none⟩)),
  (57, fun z9 W => z9 = .pointer (some ⟨bc, 0, none⟩)),
  (58, fun z9 W => z9 = .pointer (some ⟨bc, 2, none⟩)),
  (59, fun z9 W => z9 = vz),
  (60, fun z9 W => z9 = Vp na),
  (61, fun z9 W => z9 = vr),
  (62, fun z9 W => ∃ q, z9 = q ∧ HV G W ad (.node z a r) q)]
theorem hmTab4_mono (G : Nat → Prop) (ad : I2 → Nat) (ba na nb bc nc : Nat) (vx vr vu vz : Value) (x u z r : HT) (a b c : I2) (Rel : World → World → Prop) (hR : ∀ W W', Rel W W' → Ext W W') : SoftMonoR Rel (hmTab4 G ad ba na nb bc nc vx vr vu vz x u z r a b c) := by
  intro p hp v W W' h hx
  simp only [hmTab4, List.mem_cons, List.not_mem_nil, or_false] at hp
  rcases hp with rfl | rfl | rfl | rfl | rfl | rfl | rfl | rfl | rfl | rfl | rfl | rfl | rfl | rfl | rfl | rfl | rfl | rfl | rfl | rfl | rfl | rfl | rfl | rfl
  all_goals first
    | exact h
    | exact (by obtain ⟨q, h1, h2⟩ := h; exact ⟨q, h1, HV.ext (hR _ _ hx) h2⟩)

def hlTab2 (G : Nat → Prop) (ad : I2 → Nat) (ba na nb : Nat) (vx vy vr : Value) (x y r : HT) (a b : I2) : SoftTab := [(19, fun z9 W => z9 = vr),
  (20, fun z9 W => z9 = Vp na),
  (21, fun z9 W => z9 = .pointer (some ⟨ba, 0, none⟩)),
  (22, fun z9 W => z9 = .pointer (some ⟨ba, 0, none⟩)),
  (23, fun z9 W => z9 = .pointer (some ⟨ba, 1, none⟩)),
  (24, fun z9 W => z9 = vx),
  (25, fun z9 W => ∃ q, z9 = q ∧ HV G W ad (.node r a x) q),
  (26, fun z9 W => z9 = .pointer (some ⟨ba, 0, none⟩)),
  (27, fun z9 W => z9 = .pointer (some ⟨ba, 0, none⟩)),
  (28, fun z9 W => z9 = .pointer (some ⟨ba, 0, none⟩)),
  (29, fun z9 W => z9 = .pointer (some ⟨nb, 0, none⟩)),
  (30, fun z9 W => z9 = .pointer (some ⟨ba, 0, none⟩)),
  (31, fun z9 W => z9 = .pointer (some ⟨ba, 0, none⟩)),
  (32, fun z9 W => z9 = .pointer (some ⟨ba, 2, none⟩)),
  (33, fun z9 W => z9 = vy)]
theorem hlTab2_mono (G : Nat → Prop) (ad : I2 → Nat) (ba na nb : Nat) (vx vy vr : Value) (x y r : HT) (a b : I2) (Rel : World → World → Prop) (hR : ∀ W W', Rel W W' → Ext W W') : SoftMonoR Rel (hlTab2 G ad ba na nb vx vy vr x y r a b) := by
  intro p hp v W W' h hx
  simp only [hlTab2, List.mem_cons, List.not_mem_nil, or_false] at hp
  rcases hp with rfl | rfl | rfl | rfl | rfl | rfl | rfl | rfl | rfl | rfl | rfl | rfl | rfl | rfl | rfl
  all_goals first
    | exact h
    | exact (by obtain ⟨q, h1, h2⟩ := h; exact ⟨q, h1, HV.ext (hR _ _ hx) h2⟩)

def hlTab4 (G : Nat → Prop) (ad : I2 → Nat) (ba na nb bc nc : Nat) (vy vr vu vz : Value) (y u z r : HT) (a b c : I2) : SoftTab := [(39, fun z9 W => z9 = vr),
  (40, fun z9 W => z9 = Vp na),
  (41, fun z9 W => z9 = .pointer (some ⟨bc, 0, none⟩)),
  (42, fun z9 W => z9 = .pointer (some ⟨bc, 0, none⟩)),
  (43, fun z9 W => z9 = .pointer (some ⟨bc, 1, none⟩)),
  (44, fun z9 W => z9 = vu),
  (45, fun z9 W => ∃ q, z9 = q ∧ HV G W ad (.node r a u) q),
  (46, fun z9 W => z9 = .pointer (some ⟨bc, 0, none⟩)),
  (47, fun z9 W => z9 = .pointer (some ⟨bc, 0, none⟩)),
  (48, fun z9 W => z9 = .pointer (some ⟨bc, 0, none⟩)),
  (49, fun z9 W => z9 = .pointer (some ⟨nc, 0, none⟩)),
  (50, fun z9 W => z9 = .pointer (some ⟨bc, 0, none⟩)),
  (51, fun z9 W => z9 = .pointer (some ⟨bc, 0, none⟩)),
  (52, fun z9 W => z9 = .pointer (some ⟨bc, 2, none⟩)),
  (53, fun z9 W => z9 = vz),
  (54, fun z9 W => z9 = .pointer (some ⟨ba, 0, none⟩)),
  (55, fun z9 W => z9 = .pointer (some ⟨ba, 0, none⟩)),
  (56, fun z9 W => z9 = .pointer (some ⟨ba, 0, none⟩)),
  (57, fun z9 W => z9 = .pointer (some ⟨nb, 0, none⟩)),
  (58, fun z9 W => z9 = .pointer (some ⟨ba, 0, none⟩)),
  (59, fun z9 W => z9 = .pointer (some ⟨ba, 0, none⟩)),
  (60, fun z9 W => z9 = .pointer (some ⟨ba, 2, none⟩)),
  (61, fun z9 W => z9 = vy),
  (62, fun z9 W => ∃ q, z9 = q ∧ HV G W ad (.node z b y) q)]
theorem hlTab4_mono (G : Nat → Prop) (ad : I2 → Nat) (ba na nb bc nc : Nat) (vy vr vu vz : Value) (y u z r : HT) (a b c : I2) (Rel : World → World → Prop) (hR : ∀ W W', Rel W W' → Ext W W') : SoftMonoR Rel (hlTab4 G ad ba na nb bc nc vy vr vu vz y u z r a b c) := by
  intro p hp v W W' h hx
  simp only [hlTab4, List.mem_cons, List.not_mem_nil, or_false] at hp
  rcases hp with rfl | rfl | rfl | rfl | rfl | rfl | rfl | rfl | rfl | rfl | rfl | rfl | rfl | rfl | rfl | rfl | rfl | rfl | rfl | rfl | rfl | rfl | rfl | rfl
  all_goals first
    | exact h
    | exact (by obtain ⟨q, h1, h2⟩ := h; exact ⟨q, h1, HV.ext (hR _ _ hx) h2⟩)

def hwTab4 (G : Nat → Prop) (ad : I2 → Nat) (ba na nb : Nat) (vx vy : Value) (x y : HT) (a1 a2 b1 b2 : Int) : SoftTab := [(24, fun z9 W => z9 = .pointer (some ⟨ba, 0, none⟩)),
  (25, fun z9 W => z9 = .pointer (some ⟨ba, 0, none⟩)),
  (26, fun z9 W => z9 = .pointer (some ⟨ba, 1, none⟩)),
  (27, fun z9 W => z9 = vx),
  (28, fun z9 W => z9 = Vp na),
  (29, fun z9 W => ∃ q, z9 = q ∧ HV G W ad (insH x (a1, a2)) q),
  (30, fun z9 W => z9 = .pointer (some ⟨ba, 0, none⟩)),
  (31, fun z9 W => z9 = .pointer (some ⟨ba, 0, none⟩)),
  (32, fun z9 W => z9 = .pointer (some ⟨ba, 0, none⟩)),
  (33, fun z9 W => z9 = .pointer (some ⟨nb, 0, none⟩)),
  (34, fun z9 W => z9 = .pointer (some ⟨ba, 0, none⟩)),
  (35, fun z9 W => z9 = .pointer (some ⟨ba, 0, none⟩)),
  (36, fun z9 W => z9 = .pointer (some ⟨ba, 2, none⟩)),
  (37, fun z9 W => z9 = vy)]
theorem hwTab4_mono (G : Nat → Prop) (ad : I2 → Nat) (ba na nb : Nat) (vx vy : Value) (x y : HT) (a1 a2 b1 b2 : Int) (Rel : World → World → Prop) (hR : ∀ W W', Rel W W' → Ext W W') : SoftMonoR Rel (hwTab4 G ad ba na nb vx vy x y a1 a2 b1 b2) := by
  intro p hp v W W' h hx
  simp only [hwTab4, List.mem_cons, List.not_mem_nil, or_false] at hp
  rcases hp with rfl | rfl | rfl | rfl | rfl | rfl | rfl | rfl | rfl | rfl | rfl | rfl | rfl | rfl
  all_goals first
    | exact h
    | exact (by obtain ⟨q, h1, h2⟩ := h; exact ⟨q, h1, HV.ext (hR _ _ hx) h2⟩)

def hwTab5 (G : Nat → Prop) (ad : I2 → Nat) (ba na nb : Nat) (vx vy : Value) (x y : HT) (a1 a2 b1 b2 : Int) : SoftTab := [(39, fun z9 W => z9 = .pointer (some ⟨ba, 0, none⟩)),
  (40, fun z9 W => z9 = .pointer (some ⟨ba, 0, none⟩)),
  (41, fun z9 W => z9 = .pointer (some ⟨ba, 1, none⟩)),
  (42, fun z9 W => z9 = vx),
  (43, fun z9 W => z9 = .pointer (some ⟨ba, 0, none⟩)),
  (44, fun z9 W => z9 = .pointer (some ⟨ba, 0, none⟩)),
  (45, fun z9 W => z9 = .pointer (some ⟨ba, 0, none⟩)),
  (46, fun z9 W => z9 = .pointer (some ⟨nb, 0, none⟩)),
  (47, fun z9 W => z9 = .pointer (some ⟨ba, 0, none⟩)),
  (48, fun z9 W => z9 = .pointer (some ⟨ba, 0, none⟩)),
  (49, fun z9 W => z9 = .pointer (some ⟨ba, 2, none⟩)),
  (50, fun z9 W => z9 = vy),
  (51, fun z9 W => z9 = Vp na),
  (52, fun z9 W => ∃ q, z9 = q ∧ HV G W ad (insH y (a1, a2)) q)]
theorem hwTab5_mono (G : Nat → Prop) (ad : I2 → Nat) (ba na nb : Nat) (vx vy : Value) (x y : HT) (a1 a2 b1 b2 : Int) (Rel : World → World → Prop) (hR : ∀ W W', Rel W W' → Ext W W') : SoftMonoR Rel (hwTab5 G ad ba na nb vx vy x y a1 a2 b1 b2) := by
  intro p hp v W W' h hx
  simp only [hwTab5, List.mem_cons, List.not_mem_nil, or_false] at hp
  rcases hp with rfl | rfl | rfl | rfl | rfl | rfl | rfl | rfl | rfl | rfl | rfl | rfl | rfl | rfl
  all_goals first
    | exact h
    | exact (by obtain ⟨q, h1, h2⟩ := h; exact ⟨q, h1, HV.ext (hR _ _ hx) h2⟩)

theorem HV.ptr {F : Nat → Prop} {W : World} {ad : I2 → Nat} {t : HT} {v : Value} (h : HV F W ad t v) : ∃ p, v = .pointer p := by
  cases t with
  | nil => exact ⟨none, h⟩
  | node l a r => obtain ⟨b, e, _⟩ := h; exact ⟨_, e⟩
set_option maxRecDepth 100000 in
set_option maxHeartbeats 4000000 in
theorem joinH_any {G : Nat → Prop} {ad : I2 → Nat} (l r : HT) (a : I2) (vl vr : Value) (w : World) (hl : HV G w ad l vl) (hr : HV G w ad r vr) (hG : Up G w) (hb : (hin l).length + (hin r).length ≤ 100000) :
    Calls Try.prog 61 #[vl, Vp (ad a), vr] w (RetHt G ad w (.node l a r)) := by
  have g1 := hh_le l
  have g2 := hh_le r
  have h1 := Lib.hid (high_any l vl w hl)
  have h2 := Lib.hid (high_any r vr w hr)
  have hend := Lib.hid (show RetHt G ad w (.node l a r) (.returned (Vp w.heap.size)) (w.alloc (.cells #[Vp (ad a), vl, vr, Vi ((max (hh l) (hh r) + 1 : Nat) : Int)] 112)) by
    have hx2 : Ext w (w.alloc (.cells #[Vp (ad a), vl, vr, Vi ((max (hh l) (hh r) + 1 : Nat) : Int)] 112)) := (Ext.refl w).alloc _
    exact ⟨_, rfl, ⟨w.heap.size, rfl, hG _ (Nat.le_refl _), vl, vr, HC.new w _ _ _ _ _, hl.ext hx2, hr.ext hx2⟩, hx2⟩)
  obtain ⟨pl, rfl⟩ := hl.ptr
  obtain ⟨pr, rfl⟩ := hr.ptr
  clear hl hr hG
  generalize hh l = k1 at *
  generalize hh r = k2 at *
  generalize ad a = na at *
  go_enter Try.func61, Try.ntmps61
  go_wp2_with fail
  refine h1.out.mono ?_
  rintro e w1 ⟨rfl, rfl⟩
  go_wp2_with fail
  refine h2.out.mono ?_
  rintro e w2 ⟨rfl, rfl⟩
  by_cases hk : k1 < k2
  · have hk' : (k1 : Int) < (k2 : Int) := by omega
    have e0 : ((max k1 k2 + 1 : Nat) : Int) = (k2 : Int) + 1 := by omega
    rw [e0] at hend
    clear e0
    go_wp2
    go_ret
    first
      | exact hend.out
      | (rw [show max (k1 : Int) (k2 : Int) = (k2 : Int) by omega]; exact hend.out)
  · have hk' : ¬ (k1 : Int) < (k2 : Int) := by omega
    have e0 : ((max k1 k2 + 1 : Nat) : Int) = (k1 : Int) + 1 := by omega
    rw [e0] at hend
    clear e0
    go_wp2
    go_ret
    first
      | exact hend.out
      | (rw [show max (k1 : Int) (k2 : Int) = (k1 : Int) by omega]; exact hend.out)

theorem high_lit {F : Nat → Prop} {ad : I2 → Nat} {t : HT} {v : Value} {w : World} {n : Nat} (h : HV F w ad t v) (e : hh t = n) : Calls Try.prog 88 #[v] w fun e w' => e = .returned (Vi (n : Int)) ∧ w = w' := by rw [← e]; exact high_any t v w h
theorem HV.open {F : Nat → Prop} {W : World} {ad : I2 → Nat} {l r : HT} {a : I2} {v : Value} (h : HV F W ad (.node l a r) v) : ∃ b vl vr, v = Vp b ∧ W.cell? ⟨b, 0, none⟩ = some (Vp (ad a)) ∧ W.cell? ⟨b, 1, none⟩ = some vl ∧ W.cell? ⟨b, 2, none⟩ = some vr ∧ HV F W ad l vl ∧ HV F W ad r vr := by
  obtain ⟨b, e, hf, vl, vr, hc, hl, hr⟩ := h
  exact ⟨b, vl, vr, e, hc.c0, hc.c1, hc.c2, hl, hr⟩

set_option maxRecDepth 100000 in
set_option maxHeartbeats 16000000 in
theorem leanM_any {G : Nat → Prop} {ad : I2 → Nat} (x y r : HT) (a b : I2) (v vr : Value) (w : World) (hl : HV G w ad (.node x b y) v) (hr : HV G w ad r vr) (hG : Up G w) (hn : (hin (.node x b y)).length + (hin r).length ≤ 50000) :
    Calls Try.prog 89 #[v, Vp (ad a), vr] w (RetHt G ad w (leanM (.node x b y) a r)) := by
  obtain ⟨ba, vx, vy, rfl, c0, c1, c2, hx, hy⟩ := hl.open
  rw [hin_node, List.length_append, List.length_cons] at hn
  have hq1 := Lib.hid (fun (n : Nat) (en : hh x = n) => high_lit (hx.ext ((Ext.refl w).drew)) en)
  have hq2 := Lib.hid (fun (n : Nat) (en : hh y = n) => high_lit (hy.ext ((Ext.refl w).drew)) en)
  replace hq1 := Lib.hid (hq1.out _ rfl)
  replace hq2 := Lib.hid (hq2.out _ rfl)
  by_cases hh0 : hh y ≤ hh x
  · have hd : decide ((hh y : Int) ≤ (hh x : Int)) = true := by rw [decide_eq_true_eq]; omega
    have hres : leanM (.node x b y) a r = .node x b (.node y a r) := by simp only [leanM]; rw [if_pos hh0]
    rw [hres]
    clear hres
    have hj := Lib.hid (fun W (e : Ext w W) => joinH_any y r a vy vr W (hy.ext e) (hr.ext e) (hG.ext e) (by omega))
    have hk := Lib.hid (fun W v9 (e : Ext w W) (h9 : HV G W ad (.node y a r) v9) => joinH_any x (.node y a r) b vx v9 W (hx.ext e) h9 (hG.ext e) (by rw [hin_node, List.length_append, List.length_cons]; omega))
    generalize hh y = ky at *
    generalize hh x = kx at *
    clear hl hx hy hr hG hn
    generalize ad a = na at *
    generalize ad b = nb at *
    have x1 : Ext w w.drew := (Ext.refl w).drew
    have hq1' : Calls Try.prog 88 #[vx] w.drew fun e w' => e = .returned (Vi kx) ∧ w' = w.drew := hq1.out.mono fun e w' h => ⟨h.1, h.2.symm⟩
    have hq2' : Calls Try.prog 88 #[vy] w.drew fun e w' => e = .returned (Vi ky) ∧ w' = w.drew := hq2.out.mono fun e w' h => ⟨h.1, h.2.symm⟩
    replace hq1 := Lib.hid hq1'
    replace hq2 := Lib.hid hq2'
    clear hq1' hq2'
    have c0 := x1.keep c0
    have c1 := x1.keep c1
    have c2 := x1.keep c2
    go_enter Try.func89, Try.ntmps89
    go_wp2
    refine wp_region_still_tail 10 (by kernel_rfl) (by kernel_rfl) ?_
    simp only [List.take_succ_cons, List.take_zero, List.drop_succ_cons, List.drop_zero]
    change wpStill Try.prog _ w.drew (fun a' => wpList Try.prog _ _ _ a' w.drew) _ _
    replace hj := Lib.hid (fun W (e : Ext (w.drew) W) => hj.out W (x1.trans e))
    replace hk := Lib.hid (fun W v9 (e : Ext (w.drew) W) h9 => hk.out W v9 (x1.trans e) h9)
    generalize w.drew = w1 at *
    repeat still_step
    still_call hq1.out
    repeat still_step
    still_call hq2.out
    refine wpStill_nil ?_
    clear hq1 hq2
    go_wp2_with fail
    refine wp_soft_frame Ext 15 (hmTab2 G ad ba na nb vx vy vr x y r a b) (by kernel_rfl) (by kernel_rfl) (fun _ _ _ => Ext.trans) ((Ext.refl _).drew) rfl (by show List.Nodup [19, 20, 21, 22, 23, 24, 25, 26, 27, 28, 29, 30, 31, 32, 33]; decide) (by show ∀ d ∈ [19, 20, 21, 22, 23, 24, 25, 26, 27, 28, 29, 30, 31, 32, 33], d < 64; decide) (hmTab2_mono G ad ba na nb vx vy vr x y r a b Ext (fun _ _ h => h)) ?_ ⟨?_, ?_, ?_, ?_, ?_, ?_, ?_, ?_, ?_, ?_, ?_, ?_, ?_, ?_, ?_, trivial⟩
    · intro W vs hT hR
      match vs, hT with
      | [v0, v1, v2, v3, v4, v5, v6, v7, v8, v9, v10, v11, v12, v13, v14], ⟨e0, e1, e2, e3, e4, e5, e6, e7, e8, e9, e10, e11, e12, e13, e14, _⟩ =>
        simp only [hmTab2, List.map_cons, List.map_nil, List.zip_cons_cons, List.zip_nil_left, putAll, List.setIfInBounds_toArray, List.set_cons_zero, List.set_cons_succ, List.drop_succ_cons, List.drop_zero]
        simp only at e0 e1 e2 e3 e4 e5 e6 e7 e8 e9 e10 e11 e12 e13
        obtain ⟨q14, e14, h14⟩ := e14
        rw [e0, e1, e2, e3, e4, e5, e6, e7, e8, e9, e10, e11, e12, e13, e14]
        clear e0 e1 e2 e3 e4 e5 e6 e7 e8 e9 e10 e11 e12 e13 e14 v0 v1 v2 v3 v4 v5 v6 v7 v8 v9 v10 v11 v12 v13 v14
        go_wp2_with fail
        refine (hk.out W _ hR h14).mono ?_
        rintro e w4 ⟨v4, rfl, o4, x4⟩
        go_wp2
        go_ret
        exact ⟨v4, rfl, o4, x1.trans (hR.trans x4)⟩
    · refine softR_val 19 _ (by kernel_rfl) rfl rfl ?_
      intro a W hx hout hdep
      have ev0 : a.tmps[0]?.getD undef = .pointer (some ⟨ba, 0, none⟩) := by rw [← Array.getD_eq_getD_getElem?]; exact hout 0 (by show 0 ∉ [19, 20, 21, 22, 23, 24, 25, 26, 27, 28, 29, 30, 31, 32, 33]; decide)
      refine ⟨rfl, .pointer (some ⟨ba, 0, none⟩), W, ?_, rfl, Ext.refl _⟩
      simp [ev0, execOp, go_sem]
    · refine softR_val 20 _ (by kernel_rfl) rfl rfl ?_
      intro a W hx hout hdep
      have ev19 : a.tmps[19]?.getD undef = .pointer (some ⟨ba, 0, none⟩) := by rw [← Array.getD_eq_getD_getElem?]; exact (hdep ⟨0, .data⟩ (by simp) rfl 19 _ rfl).1
      refine ⟨rfl, .pointer (some ⟨ba, 0, none⟩), W, ?_, rfl, Ext.refl _⟩
      simp [ev19, execOp, go_sem]
    · refine softR_val 21 _ (by kernel_rfl) rfl rfl ?_
      intro a W hx hout hdep
      have ev20 : a.tmps[20]?.getD undef = .pointer (some ⟨ba, 0, none⟩) := by rw [← Array.getD_eq_getD_getElem?]; exact (hdep ⟨1, .data⟩ (by simp) rfl 20 _ rfl).1
      refine ⟨rfl, .pointer (some ⟨ba, 1, none⟩), W, ?_, rfl, Ext.refl _⟩
      simp [ev20, execOp, go_sem]
    · refine softR_val 22 _ (by kernel_rfl) rfl rfl ?_
      intro a W hx hout hdep
      have ev21 : a.tmps[21]?.getD undef = .pointer (some ⟨ba, 1, none⟩) := by rw [← Array.getD_eq_getD_getElem?]; exact (hdep ⟨2, .data⟩ (by simp) rfl 21 _ rfl).1
      have q0 := hx.keep c1
      refine ⟨rfl, vx, W, ?_, rfl, Ext.refl _⟩
      simp [ev21, q0, execOp, go_sem]
    · refine softR_val 23 _ (by kernel_rfl) rfl rfl ?_
      intro a W hx hout hdep
      have ev0 : a.tmps[0]?.getD undef = .pointer (some ⟨ba, 0, none⟩) := by rw [← Array.getD_eq_getD_getElem?]; exact hout 0 (by show 0 ∉ [19, 20, 21, 22, 23, 24, 25, 26, 27, 28, 29, 30, 31, 32, 33]; decide)
      refine ⟨rfl, .pointer (some ⟨ba, 0, none⟩), W, ?_, rfl, Ext.refl _⟩
      simp [ev0, execOp, go_sem]
    · refine softR_val 24 _ (by kernel_rfl) rfl rfl ?_
      intro a W hx hout hdep
      have ev23 : a.tmps[23]?.getD undef = .pointer (some ⟨ba, 0, none⟩) := by rw [← Array.getD_eq_getD_getElem?]; exact (hdep ⟨4, .data⟩ (by simp) rfl 23 _ rfl).1
      refine ⟨rfl, .pointer (some ⟨ba, 0, none⟩), W, ?_, rfl, Ext.refl _⟩
      simp [ev23, execOp, go_sem]
    · refine softR_val 25 _ (by kernel_rfl) rfl rfl ?_
      intro a W hx hout hdep
      have ev24 : a.tmps[24]?.getD undef = .pointer (some ⟨ba, 0, none⟩) := by rw [← Array.getD_eq_getD_getElem?]; exact (hdep ⟨5, .data⟩ (by simp) rfl 24 _ rfl).1
      refine ⟨rfl, .pointer (some ⟨ba, 0, none⟩), W, ?_, rfl, Ext.refl _⟩
      simp [ev24, execOp, go_sem]
    · refine softR_val 26 _ (by kernel_rfl) rfl rfl ?_
      intro a W hx hout hdep
      have ev25 : a.tmps[25]?.getD undef = .pointer (some ⟨ba, 0, none⟩) := by rw [← Array.getD_eq_getD_getElem?]; exact (hdep ⟨6, .data⟩ (by simp) rfl 25 _ rfl).1
      have q0 := hx.keep c0
      refine ⟨rfl, .pointer (some ⟨nb, 0, none⟩), W, ?_, rfl, Ext.refl _⟩
      simp [ev25, q0, execOp, go_sem]
    · refine softR_val 27 _ (by kernel_rfl) rfl rfl ?_
      intro a W hx hout hdep
      have ev0 : a.tmps[0]?.getD undef = .pointer (some ⟨ba, 0, none⟩) := by rw [← Array.getD_eq_getD_getElem?]; exact hout 0 (by show 0 ∉ [19, 20, 21, 22, 23, 24, 25, 26, 27, 28, 29, 30, 31, 32, 33]; decide)
      refine ⟨rfl, .pointer (some ⟨ba, 0, none⟩), W, ?_, rfl, Ext.refl _⟩
      simp [ev0, execOp, go_sem]
    · refine softR_val 28 _ (by kernel_rfl) rfl rfl ?_
      intro a W hx hout hdep
      have ev27 : a.tmps[27]?.getD undef = .pointer (some ⟨ba, 0, none⟩) := by rw [← Array.getD_eq_getD_getElem?]; exact (hdep ⟨8, .data⟩ (by simp) rfl 27 _ rfl).1
      refine ⟨rfl, .pointer (some ⟨ba, 0, none⟩), W, ?_, rfl, Ext.refl _⟩
      simp [ev27, execOp, go_sem]
    · refine softR_val 29 _ (by kernel_rfl) rfl rfl ?_
      intro a W hx hout hdep
      have ev28 : a.tmps[28]?.getD undef = .pointer (some ⟨ba, 0, none⟩) := by rw [← Array.getD_eq_getD_getElem?]; exact (hdep ⟨9, .data⟩ (by simp) rfl 28 _ rfl).1
      refine ⟨rfl, .pointer (some ⟨ba, 2, none⟩), W, ?_, rfl, Ext.refl _⟩
      simp [ev28, execOp, go_sem]
    · refine softR_val 30 _ (by kernel_rfl) rfl rfl ?_
      intro a W hx hout hdep
      have ev29 : a.tmps[29]?.getD undef = .pointer (some ⟨ba, 2, none⟩) := by rw [← Array.getD_eq_getD_getElem?]; exact (hdep ⟨10, .data⟩ (by simp) rfl 29 _ rfl).1
      have q0 := hx.keep c2
      refine ⟨rfl, vy, W, ?_, rfl, Ext.refl _⟩
      simp [ev29, q0, execOp, go_sem]
    · refine softR_val 31 _ (by kernel_rfl) rfl rfl ?_
      intro a W hx hout hdep
      have ev1 : a.tmps[1]?.getD undef = Vp na := by rw [← Array.getD_eq_getD_getElem?]; exact hout 1 (by show 1 ∉ [19, 20, 21, 22, 23, 24, 25, 26, 27, 28, 29, 30, 31, 32, 33]; decide)
      refine ⟨rfl, Vp na, W, ?_, rfl, Ext.refl _⟩
      simp [ev1, execOp, go_sem]
    · refine softR_val 32 _ (by kernel_rfl) rfl rfl ?_
      intro a W hx hout hdep
      have ev2 : a.tmps[2]?.getD undef = vr := by rw [← Array.getD_eq_getD_getElem?]; exact hout 2 (by show 2 ∉ [19, 20, 21, 22, 23, 24, 25, 26, 27, 28, 29, 30, 31, 32, 33]; decide)
      refine ⟨rfl, vr, W, ?_, rfl, Ext.refl _⟩
      simp [ev2, execOp, go_sem]
    · refine softR_call 33 _ (by kernel_rfl) rfl rfl ?_
      intro a W hx hout hdep
      have ev30 : a.tmps[30]?.getD undef = vy := by rw [← Array.getD_eq_getD_getElem?]; exact (hdep ⟨11, .data⟩ (by simp) rfl 30 _ rfl).1
      have ev31 : a.tmps[31]?.getD undef = Vp na := by rw [← Array.getD_eq_getD_getElem?]; exact (hdep ⟨12, .data⟩ (by simp) rfl 31 _ rfl).1
      have ev32 : a.tmps[32]?.getD undef = vr := by rw [← Array.getD_eq_getD_getElem?]; exact (hdep ⟨13, .data⟩ (by simp) rfl 32 _ rfl).1
      refine ⟨rfl, 61, #[vy, Vp na, vr], ?_, ?_⟩
      · simp [ev30, ev31, ev32, execOp, go_sem]
      · exact (hj.out W hx).mono (by rintro e W1 ⟨v, rfl, h1, h2⟩; exact ⟨v, rfl, ⟨v, rfl, h1⟩, h2⟩)
  · obtain ⟨u, c, z, rfl⟩ := hh_pos (show 0 < hh y by omega)
    obtain ⟨bc, vu, vz, rfl, d0, d1, d2, hu, hz⟩ := hy.open
    have hd : decide ((hh (.node u c z) : Int) ≤ (hh x : Int)) = false := by rw [decide_eq_false_iff_not]; omega
    have hres : leanM (.node x b (.node u c z)) a r = .node (.node x b u) c (.node z a r) := by simp only [leanM]; rw [if_neg hh0]
    rw [hres]
    clear hres
    rw [hin_node, List.length_append, List.length_cons] at hn
    have hj1 := Lib.hid (fun W (e : Ext w W) => joinH_any x u b vx vu W (hx.ext e) (hu.ext e) (hG.ext e) (by omega))
    have hj2 := Lib.hid (fun W (e : Ext w W) => joinH_any z r a vz vr W (hz.ext e) (hr.ext e) (hG.ext e) (by omega))
    have hk := Lib.hid (fun W v8 v9 (e : Ext w W) (h8 : HV G W ad (.node x b u) v8) (h9 : HV G W ad (.node z a r) v9) => joinH_any (.node x b u) (.node z a r) c v8 v9 W h8 h9 (hG.ext e) (by rw [hin_node, hin_node, List.length_append, List.length_cons, List.length_append, List.length_cons]; omega))
    generalize hh (.node u c z) = ku at *
    generalize hh x = kx at *
    clear hl hx hy hr hG hn hu hz
    generalize ad a = na at *
    generalize ad b = nb at *
    generalize ad c = nc at *
    have x1 : Ext w w.drew := (Ext.refl w).drew
    have hq1' : Calls Try.prog 88 #[vx] w.drew fun e w' => e = .returned (Vi kx) ∧ w' = w.drew := hq1.out.mono fun e w' h => ⟨h.1, h.2.symm⟩
    have hq2' : Calls Try.prog 88 #[.pointer (some ⟨bc, 0, none⟩)] w.drew fun e w' => e = .returned (Vi ku) ∧ w' = w.drew := hq2.out.mono fun e w' h => ⟨h.1, h.2.symm⟩
    replace hq1 := Lib.hid hq1'
    replace hq2 := Lib.hid hq2'
    clear hq1' hq2'
    have c0 := x1.keep c0
    have c1 := x1.keep c1
    have c2 := x1.keep c2
    have d0 := x1.keep d0
    have d1 := x1.keep d1
    have d2 := x1.keep d2
    go_enter Try.func89, Try.ntmps89
    go_wp2
    refine wp_region_still_tail 10 (by kernel_rfl) (by kernel_rfl) ?_
    simp only [List.take_succ_cons, List.take_zero, List.drop_succ_cons, List.drop_zero]
    change wpStill Try.prog _ w.drew (fun a' => wpList Try.prog _ _ _ a' w.drew) _ _
    replace hj1 := Lib.hid (fun W (e : Ext (w.drew) W) => hj1.out W (x1.trans e))
    replace hj2 := Lib.hid (fun W (e : Ext (w.drew) W) => hj2.out W (x1.trans e))
    replace hk := Lib.hid (fun W v8 v9 (e : Ext (w.drew) W) h8 h9 => hk.out W v8 v9 (x1.trans e) h8 h9)
    generalize w.drew = w1 at *
    repeat still_step
    still_call hq1.out
    repeat still_step
    still_call hq2.out
    refine wpStill_nil ?_
    clear hq1 hq2
    go_wp2_with fail
    refine wp_soft_frame Ext 24 (hmTab4 G ad ba na nb bc nc vx vr vu vz x u z r a b c) (by kernel_rfl) (by kernel_rfl) (fun _ _ _ => Ext.trans) ((Ext.refl _).drew) rfl (by show List.Nodup [39, 40, 41, 42, 43, 44, 45, 46, 47, 48, 49, 50, 51, 52, 53, 54, 55, 56, 57, 58, 59, 60, 61, 62]; decide) (by show ∀ d ∈ [39, 40, 41, 42, 43, 44, 45, 46, 47, 48, 49, 50, 51, 52, 53, 54, 55, 56, 57, 58, 59, 60, 61, 62], d < 64; decide) (hmTab4_mono G ad ba na nb bc nc vx vr vu vz x u z r a b c Ext (fun _ _ h => h)) ?_ ⟨?_, ?_, ?_, ?_, ?_, ?_, ?_, ?_, ?_, ?_, ?_, ?_, ?_, ?_, ?_, ?_, ?_, ?_, ?_, ?_, ?_, ?_, ?_, ?_, trivial⟩
    · intro W vs hT hR
      match vs, hT with
      | [v0, v1, v2, v3, v4, v5, v6, v7, v8, v9, v10, v11, v12, v13, v14, v15, v16, v17, v18, v19, v20, v21, v22, v23], ⟨e0, e1, e2, e3, e4, e5, e6, e7, e8, e9, e10, e11, e12, e13, e14, e15, e16, e17, e18, e19, e20, e21, e22, e23, _⟩ =>
        simp only [hmTab4, List.map_cons, List.map_nil, List.zip_cons_cons, List.zip_nil_left, putAll, List.setIfInBounds_toArray, List.set_cons_zero, List.set_cons_succ, List.drop_succ_cons, List.drop_zero]
        simp only at e0 e1 e2 e3 e4 e5 e6 e7 e8 e9 e10 e11 e13 e14 e15 e16 e17 e18 e19 e20 e21 e22
        obtain ⟨q12, e12, h12⟩ := e12
        obtain ⟨q23, e23, h23⟩ := e23
        rw [e0, e1, e2, e3, e4, e5, e6, e7, e8, e9, e10, e11, e12, e13, e14, e15, e16, e17, e18, e19, e20, e21, e22, e23]
        clear e0 e1 e2 e3 e4 e5 e6 e7 e8 e9 e10 e11 e12 e13 e14 e15 e16 e17 e18 e19 e20 e21 e22 e23 v0 v1 v2 v3 v4 v5 v6 v7 v8 v9 v10 v11 v12 v13 v14 v15 v16 v17 v18 v19 v20 v21 v22 v23
        go_wp2_with fail
        refine (hk.out W _ _ hR h12 h23).mono ?_
        rintro e w4 ⟨v4, rfl, o4, x4⟩
        go_wp2
        go_ret
        exact ⟨v4, rfl, o4, x1.trans (hR.trans x4)⟩
    · refine softR_val 39 _ (by kernel_rfl) rfl rfl ?_
      intro a W hx hout hdep
      have ev0 : a.tmps[0]?.getD undef = .pointer (some ⟨ba, 0, none⟩) := by rw [← Array.getD_eq_getD_getElem?]; exact hout 0 (by show 0 ∉ [39, 40, 41, 42, 43, 44, 45, 46, 47, 48, 49, 50, 51, 52, 53, 54, 55, 56, 57, 58, 59, 60, 61, 62]; decide)
      refine ⟨rfl, .pointer (some ⟨ba, 0, none⟩), W, ?_, rfl, Ext.refl _⟩
      simp [ev0, execOp, go_sem]
    · refine softR_val 40 _ (by kernel_rfl) rfl rfl ?_
      intro a W hx hout hdep
      have ev39 : a.tmps[39]?.getD undef = .pointer (some ⟨ba, 0, none⟩) := by rw [← Array.getD_eq_getD_getElem?]; exact (hdep ⟨0, .data⟩ (by simp) rfl 39 _ rfl).1
      refine ⟨rfl, .pointer (some ⟨ba, 0, none⟩), W, ?_, rfl, Ext.refl _⟩
      simp [ev39, execOp, go_sem]
    · refine softR_val 41 _ (by kernel_rfl) rfl rfl ?_
      intro a W hx hout hdep
      have ev40 : a.tmps[40]?.getD undef = .pointer (some ⟨ba, 0, none⟩) := by rw [← Array.getD_eq_getD_getElem?]; exact (hdep ⟨1, .data⟩ (by simp) rfl 40 _ rfl).1
      refine ⟨rfl, .pointer (some ⟨ba, 1, none⟩), W, ?_, rfl, Ext.refl _⟩
      simp [ev40, execOp, go_sem]
    · refine softR_val 42 _ (by kernel_rfl) rfl rfl ?_
      intro a W hx hout hdep
      have ev41 : a.tmps[41]?.getD undef = .pointer (some ⟨ba, 1, none⟩) := by rw [← Array.getD_eq_getD_getElem?]; exact (hdep ⟨2, .data⟩ (by simp) rfl 41 _ rfl).1
      have q0 := hx.keep c1
      refine ⟨rfl, vx, W, ?_, rfl, Ext.refl _⟩
      simp [ev41, q0, execOp, go_sem]
    · refine softR_val 43 _ (by kernel_rfl) rfl rfl ?_
      intro a W hx hout hdep
      have ev0 : a.tmps[0]?.getD undef = .pointer (some ⟨ba, 0, none⟩) := by rw [← Array.getD_eq_getD_getElem?]; exact hout 0 (by show 0 ∉ [39, 40, 41, 42, 43, 44, 45, 46, 47, 48, 49, 50, 51, 52, 53, 54, 55, 56, 57, 58, 59, 60, 61, 62]; decide)
      refine ⟨rfl, .pointer (some ⟨ba, 0, none⟩), W, ?_, rfl, Ext.refl _⟩
      simp [ev0, execOp, go_sem]
    · refine softR_val 44 _ (by kernel_rfl) rfl rfl ?_
      intro a W hx hout hdep
      have ev43 : a.tmps[43]?.getD undef = .pointer (some ⟨ba, 0, none⟩) := by rw [← Array.getD_eq_getD_getElem?]; exact (hdep ⟨4, .data⟩ (by simp) rfl 43 _ rfl).1
      refine ⟨rfl, .pointer (some ⟨ba, 0, none⟩), W, ?_, rfl, Ext.refl _⟩
      simp [ev43, execOp, go_sem]
    · refine softR_val 45 _ (by kernel_rfl) rfl rfl ?_
      intro a W hx hout hdep
      have ev44 : a.tmps[44]?.getD undef = .pointer (some ⟨ba, 0, none⟩) := by rw [← Array.getD_eq_getD_getElem?]; exact (hdep ⟨5, .data⟩ (by simp) rfl 44 _ rfl).1
      refine ⟨rfl, .pointer (some ⟨ba, 0, none⟩), W, ?_, rfl, Ext.refl _⟩
      simp [ev44, execOp, go_sem]
    · refine softR_val 46 _ (by kernel_rfl) rfl rfl ?_
      intro a W hx hout hdep
      have ev45 : a.tmps[45]?.getD undef = .pointer (some ⟨ba, 0, none⟩) := by rw [← Array.getD_eq_getD_getElem?]; exact (hdep ⟨6, .data⟩ (by simp) rfl 45 _ rfl).1
      have q0 := hx.keep c0
      refine ⟨rfl, .pointer (some ⟨nb, 0, none⟩), W, ?_, rfl, Ext.refl _⟩
      simp [ev45, q0, execOp, go_sem]
    · refine softR_val 47 _ (by kernel_rfl) rfl rfl ?_
      intro a W hx hout hdep
      have ev7 : a.tmps[7]?.getD undef = .pointer (some ⟨bc, 0, none⟩) := by rw [← Array.getD_eq_getD_getElem?]; exact hout 7 (by show 7 ∉ [39, 40, 41, 42, 43, 44, 45, 46, 47, 48, 49, 50, 51, 52, 53, 54, 55, 56, 57, 58, 59, 60, 61, 62]; decide)
      refine ⟨rfl, .pointer (some ⟨bc, 0, none⟩), W, ?_, rfl, Ext.refl _⟩
      simp [ev7, execOp, go_sem]
    · refine softR_val 48 _ (by kernel_rfl) rfl rfl ?_
      intro a W hx hout hdep
      have ev47 : a.tmps[47]?.getD undef = .pointer (some ⟨bc, 0, none⟩) := by rw [← Array.getD_eq_getD_getElem?]; exact (hdep ⟨8, .data⟩ (by simp) rfl 47 _ rfl).1
      refine ⟨rfl, .pointer (some ⟨bc, 0, none⟩), W, ?_, rfl, Ext.refl _⟩
      simp [ev47, execOp, go_sem]
    · refine softR_val 49 _ (by kernel_rfl) rfl rfl ?_
      intro a W hx hout hdep
      have ev48 : a.tmps[48]?.getD undef = .pointer (some ⟨bc, 0, none⟩) := by rw [← Array.getD_eq_getD_getElem?]; exact (hdep ⟨9, .data⟩ (by simp) rfl 48 _ rfl).1
      refine ⟨rfl, .pointer (some ⟨bc, 1, none⟩), W, ?_, rfl, Ext.refl _⟩
      simp [ev48, execOp, go_sem]
    · refine softR_val 50 _ (by kernel_rfl) rfl rfl ?_
      intro a W hx hout hdep
      have ev49 : a.tmps[49]?.getD undef = .pointer (some ⟨bc, 1, none⟩) := by rw [← Array.getD_eq_getD_getElem?]; exact (hdep ⟨10, .data⟩ (by simp) rfl 49 _ rfl).1
      have q0 := hx.keep d1
      refine ⟨rfl, vu, W, ?_, rfl, Ext.refl _⟩
      simp [ev49, q0, execOp, go_sem]
    · refine softR_call 51 _ (by kernel_rfl) rfl rfl ?_
      intro a W hx hout hdep
      have ev42 : a.tmps[42]?.getD undef = vx := by rw [← Array.getD_eq_getD_getElem?]; exact (hdep ⟨3, .data⟩ (by simp) rfl 42 _ rfl).1
      have ev46 : a.tmps[46]?.getD undef = .pointer (some ⟨nb, 0, none⟩) := by rw [← Array.getD_eq_getD_getElem?]; exact (hdep ⟨7, .data⟩ (by simp) rfl 46 _ rfl).1
      have ev50 : a.tmps[50]?.getD undef = vu := by rw [← Array.getD_eq_getD_getElem?]; exact (hdep ⟨11, .data⟩ (by simp) rfl 50 _ rfl).1
      refine ⟨rfl, 61, #[vx, Vp nb, vu], ?_, ?_⟩
      · simp [ev42, ev46, ev50, execOp, go_sem]
      · exact (hj1.out W hx).mono (by rintro e W1 ⟨v, rfl, h1, h2⟩; exact ⟨v, rfl, ⟨v, rfl, h1⟩, h2⟩)
    · refine softR_val 52 _ (by kernel_rfl) rfl rfl ?_
      intro a W hx hout hdep
      have ev7 : a.tmps[7]?.getD undef = .pointer (some ⟨bc, 0, none⟩) := by rw [← Array.getD_eq_getD_getElem?]; exact hout 7 (by show 7 ∉ [39, 40, 41, 42, 43, 44, 45, 46, 47, 48, 49, 50, 51, 52, 53, 54, 55, 56, 57, 58, 59, 60, 61, 62]; decide)
      refine ⟨rfl, .pointer (some ⟨bc, 0, none⟩), W, ?_, rfl, Ext.refl _⟩
      simp [ev7, execOp, go_sem]
    · refine softR_val 53 _ (by kernel_rfl) rfl rfl ?_
      intro a W hx hout hdep
      have ev52 : a.tmps[52]?.getD undef = .pointer (some ⟨bc, 0, none⟩) := by rw [← Array.getD_eq_getD_getElem?]; exact (hdep ⟨13, .data⟩ (by simp) rfl 52 _ rfl).1
      refine ⟨rfl, .pointer (some ⟨bc, 0, none⟩), W, ?_, rfl, Ext.refl _⟩
      simp [ev52, execOp, go_sem]
    · refine softR_val 54 _ (by kernel_rfl) rfl rfl ?_
      intro a W hx hout hdep
      have ev53 : a.tmps[53]?.getD undef = .pointer (some ⟨bc, 0, none⟩) := by rw [← Array.getD_eq_getD_getElem?]; exact (hdep ⟨14, .data⟩ (by simp) rfl 53 _ rfl).1
      refine ⟨rfl, .pointer (some ⟨bc, 0, none⟩), W, ?_, rfl, Ext.refl _⟩
      simp [ev53, execOp, go_sem]
    · refine softR_val 55 _ (by kernel_rfl) rfl rfl ?_
      intro a W hx hout hdep
      have ev54 : a.tmps[54]?.getD undef = .pointer (some ⟨bc, 0, none⟩) := by rw [← Array.getD_eq_getD_getElem?]; exact (hdep ⟨15, .data⟩ (by simp) rfl 54 _ rfl).1
      have q0 := hx.keep d0
      refine ⟨rfl, .pointer (some ⟨nc, 0, none⟩), W, ?_, rfl, Ext.refl _⟩
      simp [ev54, q0, execOp, go_sem]
    · refine softR_val 56 _ (by kernel_rfl) rfl rfl ?_
      intro a W hx hout hdep
      have ev7 : a.tmps[7]?.getD undef = .pointer (some ⟨bc, 0, none⟩) := by rw [← Array.getD_eq_getD_getElem?]; exact hout 7 (by show 7 ∉ [39, 40, 41, 42, 43, 44, 45, 46, 47, 48, 49, 50, 51, 52, 53, 54, 55, 56, 57, 58, 59, 60, 61, 62]; decide)
      refine ⟨rfl, .pointer (some ⟨bc, 0, none⟩), W, ?_, rfl, Ext.refl _⟩
      simp [ev7, execOp, go_sem]
    · refine softR_val 57 _ (by kernel_rfl) rfl rfl ?_
      intro a W hx hout hdep
      have ev56 : a.tmps[56]?.getD undef = .pointer (some ⟨bc, 0, none⟩) := by rw [← Array.getD_eq_getD_getElem?]; exact (hdep ⟨17, .data⟩ (by simp) rfl 56 _ rfl).1
      refine ⟨rfl, .pointer (some ⟨bc, 0, none⟩), W, ?_, rfl, Ext.refl _⟩
      simp [ev56, execOp, go_sem]
    · refine softR_val 58 _ (by kernel_rfl) rfl rfl ?_
      intro a W hx hout hdep
      have ev57 : a.tmps[57]?.getD undef = .pointer (some ⟨bc, 0, none⟩) := by rw [← Array.getD_eq_getD_getElem?]; exact (hdep ⟨18, .data⟩ (by simp) rfl 57 _ rfl).1
      refine ⟨rfl, .pointer (some ⟨bc, 2, none⟩), W, ?_, rfl, Ext.refl _⟩
      simp [ev57, execOp, go_sem]
    · refine softR_val 59 _ (by kernel_rfl) rfl rfl ?_
      intro a W hx hout hdep
      have ev58 : a.tmps[58]?.getD undef = .pointer (some ⟨bc, 2, none⟩) := by rw [← Array.getD_eq_getD_getElem?]; exact (hdep ⟨19, .data⟩ (by simp) rfl 58 _ rfl).1
      have q0 := hx.keep d2
      refine ⟨rfl, vz, W, ?_, rfl, Ext.refl _⟩
      simp [ev58, q0, execOp, go_sem]
    · refine softR_val 60 _ (by kernel_rfl) rfl rfl ?_
      intro a W hx hout hdep
      have ev1 : a.tmps[1]?.getD undef = Vp na := by rw [← Array.getD_eq_getD_getElem?]; exact hout 1 (by show 1 ∉ [39, 40, 41, 42, 43, 44, 45, 46, 47, 48, 49, 50, 51, 52, 53, 54, 55, 56, 57, 58, 59, 60, 61, 62]; decide)
      refine ⟨rfl, Vp na, W, ?_, rfl, Ext.refl _⟩
      simp [ev1, execOp, go_sem]
    · refine softR_val 61 _ (by kernel_rfl) rfl rfl ?_
      intro a W hx hout hdep
      have ev2 : a.tmps[2]?.getD undef = vr := by rw [← Array.getD_eq_getD_getElem?]; exact hout 2 (by show 2 ∉ [39, 40, 41, 42, 43, 44, 45, 46, 47, 48, 49, 50, 51, 52, 53, 54, 55, 56, 57, 58, 59, 60, 61, 62]; decide)
      refine ⟨rfl, vr, W, ?_, rfl, Ext.refl _⟩
      simp [ev2, execOp, go_sem]
    · refine softR_call 62 _ (by kernel_rfl) rfl rfl ?_
      intro a W hx hout hdep
      have ev59 : a.tmps[59]?.getD undef = vz := by rw [← Array.getD_eq_getD_getElem?]; exact (hdep ⟨20, .data⟩ (by simp) rfl 59 _ rfl).1
      have ev60 : a.tmps[60]?.getD undef = Vp na := by rw [← Array.getD_eq_getD_getElem?]; exact (hdep ⟨21, .data⟩ (by simp) rfl 60 _ rfl).1
      have ev61 : a.tmps[61]?.getD undef = vr := by rw [← Array.getD_eq_getD_getElem?]; exact (hdep ⟨22, .data⟩ (by simp) rfl 61 _ rfl).1
      refine ⟨rfl, 61, #[vz, Vp na, vr], ?_, ?_⟩
      · simp [ev59, ev60, ev61, execOp, go_sem]
      · exact (hj2.out W hx).mono (by rintro e W1 ⟨v, rfl, h1, h2⟩; exact ⟨v, rfl, ⟨v, rfl, h1⟩, h2⟩)

set_option maxRecDepth 100000 in
set_option maxHeartbeats 16000000 in
theorem leanS_any {G : Nat → Prop} {ad : I2 → Nat} (x y r : HT) (a b : I2) (v vr : Value) (w : World) (hl : HV G w ad (.node x b y) v) (hr : HV G w ad r vr) (hG : Up G w) (hn : (hin (.node x b y)).length + (hin r).length ≤ 50000) :
    Calls Try.prog 90 #[vr, Vp (ad a), v] w (RetHt G ad w (leanS r a (.node x b y))) := by
  obtain ⟨ba, vx, vy, rfl, c0, c1, c2, hx, hy⟩ := hl.open
  rw [hin_node, List.length_append, List.length_cons] at hn
  have hq1 := Lib.hid (fun (n : Nat) (en : hh x = n) => high_lit (hx.ext ((Ext.refl w).drew)) en)
  have hq2 := Lib.hid (fun (n : Nat) (en : hh y = n) => high_lit (hy.ext ((Ext.refl w).drew)) en)
  replace hq1 := Lib.hid (hq1.out _ rfl)
  replace hq2 := Lib.hid (hq2.out _ rfl)
  by_cases hh0 : hh x ≤ hh y
  · have hd : decide ((hh x : Int) ≤ (hh y : Int)) = true := by rw [decide_eq_true_eq]; omega
    have hres : leanS r a (.node x b y) = .node (.node r a x) b y := by simp only [leanS]; rw [if_pos hh0]
    rw [hres]
    clear hres
    have hj := Lib.hid (fun W (e : Ext w W) => joinH_any r x a vr vx W (hr.ext e) (hx.ext e) (hG.ext e) (by omega))
    have hk := Lib.hid (fun W v9 (e : Ext w W) (h9 : HV G W ad (.node r a x) v9) => joinH_any (.node r a x) y b v9 vy W h9 (hy.ext e) (hG.ext e) (by rw [hin_node, List.length_append, List.length_cons]; omega))
    generalize hh y = ky at *
    generalize hh x = kx at *
    clear hl hx hy hr hG hn
    generalize ad a = na at *
    generalize ad b = nb at *
    have x1 : Ext w w.drew := (Ext.refl w).drew
    have hq1' : Calls Try.prog 88 #[vx] w.drew fun e w' => e = .returned (Vi kx) ∧ w' = w.drew := hq1.out.mono fun e w' h => ⟨h.1, h.2.symm⟩
    have hq2' : Calls Try.prog 88 #[vy] w.drew fun e w' => e = .returned (Vi ky) ∧ w' = w.drew := hq2.out.mono fun e w' h => ⟨h.1, h.2.symm⟩
    replace hq1 := Lib.hid hq1'
    replace hq2 := Lib.hid hq2'
    clear hq1' hq2'
    have c0 := x1.keep c0
    have c1 := x1.keep c1
    have c2 := x1.keep c2
    go_enter Try.func90, Try.ntmps90
    go_wp2
    refine wp_region_still_tail 10 (by kernel_rfl) (by kernel_rfl) ?_
    simp only [List.take_succ_cons, List.take_zero, List.drop_succ_cons, List.drop_zero]
    change wpStill Try.prog _ w.drew (fun a' => wpList Try.prog _ _ _ a' w.drew) _ _
    replace hj := Lib.hid (fun W (e : Ext (w.drew) W) => hj.out W (x1.trans e))
    replace hk := Lib.hid (fun W v9 (e : Ext (w.drew) W) h9 => hk.out W v9 (x1.trans e) h9)
    generalize w.drew = w1 at *
    repeat still_step
    still_call hq2.out
    repeat still_step
    still_call hq1.out
    refine wpStill_nil ?_
    clear hq1 hq2
    go_wp2_with fail
    refine wp_soft_frame Ext 15 (hlTab2 G ad ba na nb vx vy vr x y r a b) (by kernel_rfl) (by kernel_rfl) (fun _ _ _ => Ext.trans) ((Ext.refl _).drew) rfl (by show List.Nodup [19, 20, 21, 22, 23, 24, 25, 26, 27, 28, 29, 30, 31, 32, 33]; decide) (by show ∀ d ∈ [19, 20, 21, 22, 23, 24, 25, 26, 27, 28, 29, 30, 31, 32, 33], d < 64; decide) (hlTab2_mono G ad ba na nb vx vy vr x y r a b Ext (fun _ _ h => h)) ?_ ⟨?_, ?_, ?_, ?_, ?_, ?_, ?_, ?_, ?_, ?_, ?_, ?_, ?_, ?_, ?_, trivial⟩
    · intro W vs hT hR
      match vs, hT with
      | [v0, v1, v2, v3, v4, v5, v6, v7, v8, v9, v10, v11, v12, v13, v14], ⟨e0, e1, e2, e3, e4, e5, e6, e7, e8, e9, e10, e11, e12, e13, e14, _⟩ =>
        simp only [hlTab2, List.map_cons, List.map_nil, List.zip_cons_cons, List.zip_nil_left, putAll, List.setIfInBounds_toArray, List.set_cons_zero, List.set_cons_succ, List.drop_succ_cons, List.drop_zero]
        simp only at e0 e1 e2 e3 e4 e5 e7 e8 e9 e10 e11 e12 e13 e14
        obtain ⟨q6, e6, h6⟩ := e6
        rw [e0, e1, e2, e3, e4, e5, e6, e7, e8, e9, e10, e11, e12, e13, e14]
        clear e0 e1 e2 e3 e4 e5 e6 e7 e8 e9 e10 e11 e12 e13 e14 v0 v1 v2 v3 v4 v5 v6 v7 v8 v9 v10 v11 v12 v13 v14
        go_wp2_with fail
        refine (hk.out W _ hR h6).mono ?_
        rintro e w4 ⟨v4, rfl, o4, x4⟩
        go_wp2
        go_ret
        exact ⟨v4, rfl, o4, x1.trans (hR.trans x4)⟩
    · refine softR_val 19 _ (by kernel_rfl) rfl rfl ?_
      intro a W hx hout hdep
      have ev0 : a.tmps[0]?.getD undef = vr := by rw [← Array.getD_eq_getD_getElem?]; exact hout 0 (by show 0 ∉ [19, 20, 21, 22, 23, 24, 25, 26, 27, 28, 29, 30, 31, 32, 33]; decide)
      refine ⟨rfl, vr, W, ?_, rfl, Ext.refl _⟩
      simp [ev0, execOp, go_sem]
    · refine softR_val 20 _ (by kernel_rfl) rfl rfl ?_
      intro a W hx hout hdep
      have ev1 : a.tmps[1]?.getD undef = Vp na := by rw [← Array.getD_eq_getD_getElem?]; exact hout 1 (by show 1 ∉ [19, 20, 21, 22, 23, 24, 25, 26, 27, 28, 29, 30, 31, 32, 33]; decide)
      refine ⟨rfl, Vp na, W, ?_, rfl, Ext.refl _⟩
      simp [ev1, execOp, go_sem]
    · refine softR_val 21 _ (by kernel_rfl) rfl rfl ?_
      intro a W hx hout hdep
      have ev2 : a.tmps[2]?.getD undef = .pointer (some ⟨ba, 0, none⟩) := by rw [← Array.getD_eq_getD_getElem?]; exact hout 2 (by show 2 ∉ [19, 20, 21, 22, 23, 24, 25, 26, 27, 28, 29, 30, 31, 32, 33]; decide)
      refine ⟨rfl, .pointer (some ⟨ba, 0, none⟩), W, ?_, rfl, Ext.refl _⟩
      simp [ev2, execOp, go_sem]
    · refine softR_val 22 _ (by kernel_rfl) rfl rfl ?_
      intro a W hx hout hdep
      have ev21 : a.tmps[21]?.getD undef = .pointer (some ⟨ba, 0, none⟩) := by rw [← Array.getD_eq_getD_getElem?]; exact (hdep ⟨2, .data⟩ (by simp) rfl 21 _ rfl).1
      refine ⟨rfl, .pointer (some ⟨ba, 0, none⟩), W, ?_, rfl, Ext.refl _⟩
      simp [ev21, execOp, go_sem]
    · refine softR_val 23 _ (by kernel_rfl) rfl rfl ?_
      intro a W hx hout hdep
      have ev22 : a.tmps[22]?.getD undef = .pointer (some ⟨ba, 0, none⟩) := by rw [← Array.getD_eq_getD_getElem?]; exact (hdep ⟨3, .data⟩ (by simp) rfl 22 _ rfl).1
      refine ⟨rfl, .pointer (some ⟨ba, 1, none⟩), W, ?_, rfl, Ext.refl _⟩
      simp [ev22, execOp, go_sem]
    · refine softR_val 24 _ (by kernel_rfl) rfl rfl ?_
      intro a W hx hout hdep
      have ev23 : a.tmps[23]?.getD undef = .pointer (some ⟨ba, 1, none⟩) := by rw [← Array.getD_eq_getD_getElem?]; exact (hdep ⟨4, .data⟩ (by simp) rfl 23 _ rfl).1
      have q0 := hx.keep c1
      refine ⟨rfl, vx, W, ?_, rfl, Ext.refl _⟩
      simp [ev23, q0, execOp, go_sem]
    · refine softR_call 25 _ (by kernel_rfl) rfl rfl ?_
      intro a W hx hout hdep
      have ev19 : a.tmps[19]?.getD undef = vr := by rw [← Array.getD_eq_getD_getElem?]; exact (hdep ⟨0, .data⟩ (by simp) rfl 19 _ rfl).1
      have ev20 : a.tmps[20]?.getD undef = Vp na := by rw [← Array.getD_eq_getD_getElem?]; exact (hdep ⟨1, .data⟩ (by simp) rfl 20 _ rfl).1
      have ev24 : a.tmps[24]?.getD undef = vx := by rw [← Array.getD_eq_getD_getElem?]; exact (hdep ⟨5, .data⟩ (by simp) rfl 24 _ rfl).1
      refine ⟨rfl, 61, #[vr, Vp na, vx], ?_, ?_⟩
      · simp [ev19, ev20, ev24, execOp, go_sem]
      · exact (hj.out W hx).mono (by rintro e W1 ⟨v, rfl, h1, h2⟩; exact ⟨v, rfl, ⟨v, rfl, h1⟩, h2⟩)
    · refine softR_val 26 _ (by kernel_rfl) rfl rfl ?_
      intro a W hx hout hdep
      have ev2 : a.tmps[2]?.getD undef = .pointer (some ⟨ba, 0, none⟩) := by rw [← Array.getD_eq_getD_getElem?]; exact hout 2 (by show 2 ∉ [19, 20, 21, 22, 23, 24, 25, 26, 27, 28, 29, 30, 31, 32, 33]; decide)
      refine ⟨rfl, .pointer (some ⟨ba, 0, none⟩), W, ?_, rfl, Ext.refl _⟩
      simp [ev2, execOp, go_sem]
    · refine softR_val 27 _ (by kernel_rfl) rfl rfl ?_
      intro a W hx hout hdep
      have ev26 : a.tmps[26]?.getD undef = .pointer (some ⟨ba, 0, none⟩) := by rw [← Array.getD_eq_getD_getElem?]; exact (hdep ⟨7, .data⟩ (by simp) rfl 26 _ rfl).1
      refine ⟨rfl, .pointer (some ⟨ba, 0, none⟩), W, ?_, rfl, Ext.refl _⟩
      simp [ev26, execOp, go_sem]
    · refine softR_val 28 _ (by kernel_rfl) rfl rfl ?_
      intro a W hx hout hdep
      have ev27 : a.tmps[27]?.getD undef = .pointer (some ⟨ba, 0, none⟩) := by rw [← Array.getD_eq_getD_getElem?]; exact (hdep ⟨8, .data⟩ (by simp) rfl 27 _ rfl).1
      refine ⟨rfl, .pointer (some ⟨ba, 0, none⟩), W, ?_, rfl, Ext.refl _⟩
      simp [ev27, execOp, go_sem]
    · refine softR_val 29 _ (by kernel_rfl) rfl rfl ?_
      intro a W hx hout hdep
      have ev28 : a.tmps[28]?.getD undef = .pointer (some ⟨ba, 0, none⟩) := by rw [← Array.getD_eq_getD_getElem?]; exact (hdep ⟨9, .data⟩ (by simp) rfl 28 _ rfl).1
      have q0 := hx.keep c0
      refine ⟨rfl, .pointer (some ⟨nb, 0, none⟩), W, ?_, rfl, Ext.refl _⟩
      simp [ev28, q0, execOp, go_sem]
    · refine softR_val 30 _ (by kernel_rfl) rfl rfl ?_
      intro a W hx hout hdep
      have ev2 : a.tmps[2]?.getD undef = .pointer (some ⟨ba, 0, none⟩) := by rw [← Array.getD_eq_getD_getElem?]; exact hout 2 (by show 2 ∉ [19, 20, 21, 22, 23, 24, 25, 26, 27, 28, 29, 30, 31, 32, 33]; decide)
      refine ⟨rfl, .pointer (some ⟨ba, 0, none⟩), W, ?_, rfl, Ext.refl _⟩
      simp [ev2, execOp, go_sem]
    · refine softR_val 31 _ (by kernel_rfl) rfl rfl ?_
      intro a W hx hout hdep
      have ev30 : a.tmps[30]?.getD undef = .pointer (some ⟨ba, 0, none⟩) := by rw [← Array.getD_eq_getD_getElem?]; exact (hdep ⟨11, .data⟩ (by simp) rfl 30 _ rfl).1
      refine ⟨rfl, .pointer (some ⟨ba, 0, none⟩), W, ?_, rfl, Ext.refl _⟩
      simp [ev30, execOp, go_sem]
    · refine softR_val 32 _ (by kernel_rfl) rfl rfl ?_
      intro a W hx hout hdep
      have ev31 : a.tmps[31]?.getD undef = .pointer (some ⟨ba, 0, none⟩) := by rw [← Array.getD_eq_getD_getElem?]; exact (hdep ⟨12, .data⟩ (by simp) rfl 31 _ rfl).1
      refine ⟨rfl, .pointer (some ⟨ba, 2, none⟩), W, ?_, rfl, Ext.refl _⟩
      simp [ev31, execOp, go_sem]
    · refine softR_val 33 _ (by kernel_rfl) rfl rfl ?_
      intro a W hx hout hdep
      have ev32 : a.tmps[32]?.getD undef = .pointer (some ⟨ba, 2, none⟩) := by rw [← Array.getD_eq_getD_getElem?]; exact (hdep ⟨13, .data⟩ (by simp) rfl 32 _ rfl).1
      have q0 := hx.keep c2
      refine ⟨rfl, vy, W, ?_, rfl, Ext.refl _⟩
      simp [ev32, q0, execOp, go_sem]
  · obtain ⟨u, c, z, rfl⟩ := hh_pos (show 0 < hh x by omega)
    obtain ⟨bc, vu, vz, rfl, d0, d1, d2, hu, hz⟩ := hx.open
    have hd : decide ((hh (.node u c z) : Int) ≤ (hh y : Int)) = false := by rw [decide_eq_false_iff_not]; omega
    have hres : leanS r a (.node (.node u c z) b y) = .node (.node r a u) c (.node z b y) := by simp only [leanS]; rw [if_neg hh0]
    rw [hres]
    clear hres
    rw [hin_node, List.length_append, List.length_cons] at hn
    have hj1 := Lib.hid (fun W (e : Ext w W) => joinH_any r u a vr vu W (hr.ext e) (hu.ext e) (hG.ext e) (by omega))
    have hj2 := Lib.hid (fun W (e : Ext w W) => joinH_any z y b vz vy W (hz.ext e) (hy.ext e) (hG.ext e) (by omega))
    have hk := Lib.hid (fun W v8 v9 (e : Ext w W) (h8 : HV G W ad (.node r a u) v8) (h9 : HV G W ad (.node z b y) v9) => joinH_any (.node r a u) (.node z b y) c v8 v9 W h8 h9 (hG.ext e) (by rw [hin_node, hin_node, List.length_append, List.length_cons, List.length_append, List.length_cons]; omega))
    generalize hh (.node u c z) = ku at *
    generalize hh y = kx at *
    clear hl hx hy hr hG hn hu hz
    generalize ad a = na at *
    generalize ad b = nb at *
    generalize ad c = nc at *
    have x1 : Ext w w.drew := (Ext.refl w).drew
    have hq1' : Calls Try.prog 88 #[.pointer (some ⟨bc, 0, none⟩)] w.drew fun e w' => e = .returned (Vi ku) ∧ w' = w.drew := hq1.out.mono fun e w' h => ⟨h.1, h.2.symm⟩
    have hq2' : Calls Try.prog 88 #[vy] w.drew fun e w' => e = .returned (Vi kx) ∧ w' = w.drew := hq2.out.mono fun e w' h => ⟨h.1, h.2.symm⟩
    replace hq1 := Lib.hid hq1'
    replace hq2 := Lib.hid hq2'
    clear hq1' hq2'
    have c0 := x1.keep c0
    have c1 := x1.keep c1
    have c2 := x1.keep c2
    have d0 := x1.keep d0
    have d1 := x1.keep d1
    have d2 := x1.keep d2
    go_enter Try.func90, Try.ntmps90
    go_wp2
    refine wp_region_still_tail 10 (by kernel_rfl) (by kernel_rfl) ?_
    simp only [List.take_succ_cons, List.take_zero, List.drop_succ_cons, List.drop_zero]
    change wpStill Try.prog _ w.drew (fun a' => wpList Try.prog _ _ _ a' w.drew) _ _
    replace hj1 := Lib.hid (fun W (e : Ext (w.drew) W) => hj1.out W (x1.trans e))
    replace hj2 := Lib.hid (fun W (e : Ext (w.drew) W) => hj2.out W (x1.trans e))
    replace hk := Lib.hid (fun W v8 v9 (e : Ext (w.drew) W) h8 h9 => hk.out W v8 v9 (x1.trans e) h8 h9)
    generalize w.drew = w1 at *
    repeat still_step
    still_call hq2.out
    repeat still_step
    still_call hq1.out
    refine wpStill_nil ?_
    clear hq1 hq2
    go_wp2_with fail
    refine wp_soft_frame Ext 24 (hlTab4 G ad ba na nb bc nc vy vr vu vz y u z r a b c) (by kernel_rfl) (by kernel_rfl) (fun _ _ _ => Ext.trans) ((Ext.refl _).drew) rfl (by show List.Nodup [39, 40, 41, 42, 43, 44, 45, 46, 47, 48, 49, 50, 51, 52, 53, 54, 55, 56, 57, 58, 59, 60, 61, 62]; decide) (by show ∀ d ∈ [39, 40, 41, 42, 43, 44, 45, 46, 47, 48, 49, 50, 51, 52, 53, 54, 55, 56, 57, 58, 59, 60, 61, 62], d < 64; decide) (hlTab4_mono G ad ba na nb bc nc vy vr vu vz y u z r a b c Ext (fun _ _ h => h)) ?_ ⟨?_, ?_, ?_, ?_, ?_, ?_, ?_, ?_, ?_, ?_, ?_, ?_, ?_, ?_, ?_, ?_, ?_, ?_, ?_, ?_, ?_, ?_, ?_, ?_, trivial⟩
    · intro W vs hT hR
      match vs, hT with
      | [v0, v1, v2, v3, v4, v5, v6, v7, v8, v9, v10, v11, v12, v13, v14, v15, v16, v17, v18, v19, v20, v21, v22, v23], ⟨e0, e1, e2, e3, e4, e5, e6, e7, e8, e9, e10, e11, e12, e13, e14, e15, e16, e17, e18, e19, e20, e21, e22, e23, _⟩ =>
        simp only [hlTab4, List.map_cons, List.map_nil, List.zip_cons_cons, List.zip_nil_left, putAll, List.setIfInBounds_toArray, List.set_cons_zero, List.set_cons_succ, List.drop_succ_cons, List.drop_zero]
        simp only at e0 e1 e2 e3 e4 e5 e7 e8 e9 e10 e11 e12 e13 e14 e15 e16 e17 e18 e19 e20 e21 e22
        obtain ⟨q6, e6, h6⟩ := e6
        obtain ⟨q23, e23, h23⟩ := e23
        rw [e0, e1, e2, e3, e4, e5, e6, e7, e8, e9, e10, e11, e12, e13, e14, e15, e16, e17, e18, e19, e20, e21, e22, e23]
        clear e0 e1 e2 e3 e4 e5 e6 e7 e8 e9 e10 e11 e12 e13 e14 e15 e16 e17 e18 e19 e20 e21 e22 e23 v0 v1 v2 v3 v4 v5 v6 v7 v8 v9 v10 v11 v12 v13 v14 v15 v16 v17 v18 v19 v20 v21 v22 v23
        go_wp2_with fail
        refine (hk.out W _ _ hR h6 h23).mono ?_
        rintro e w4 ⟨v4, rfl, o4, x4⟩
        go_wp2
        go_ret
        exact ⟨v4, rfl, o4, x1.trans (hR.trans x4)⟩
    · refine softR_val 39 _ (by kernel_rfl) rfl rfl ?_
      intro a W hx hout hdep
      have ev0 : a.tmps[0]?.getD undef = vr := by rw [← Array.getD_eq_getD_getElem?]; exact hout 0 (by show 0 ∉ [39, 40, 41, 42, 43, 44, 45, 46, 47, 48, 49, 50, 51, 52, 53, 54, 55, 56, 57, 58, 59, 60, 61, 62]; decide)
      refine ⟨rfl, vr, W, ?_, rfl, Ext.refl _⟩
      simp [ev0, execOp, go_sem]
    · refine softR_val 40 _ (by kernel_rfl) rfl rfl ?_
      intro a W hx hout hdep
      have ev1 : a.tmps[1]?.getD undef = Vp na := by rw [← Array.getD_eq_getD_getElem?]; exact hout 1 (by show 1 ∉ [39, 40, 41, 42, 43, 44, 45, 46, 47, 48, 49, 50, 51, 52, 53, 54, 55, 56, 57, 58, 59, 60, 61, 62]; decide)
      refine ⟨rfl, Vp na, W, ?_, rfl, Ext.refl _⟩
      simp [ev1, execOp, go_sem]
    · refine softR_val 41 _ (by kernel_rfl) rfl rfl ?_
      intro a W hx hout hdep
      have ev7 : a.tmps[7]?.getD undef = .pointer (some ⟨bc, 0, none⟩) := by rw [← Array.getD_eq_getD_getElem?]; exact hout 7 (by show 7 ∉ [39, 40, 41, 42, 43, 44, 45, 46, 47, 48, 49, 50, 51, 52, 53, 54, 55, 56, 57, 58, 59, 60, 61, 62]; decide)
      refine ⟨rfl, .pointer (some ⟨bc, 0, none⟩), W, ?_, rfl, Ext.refl _⟩
      simp [ev7, execOp, go_sem]
    · refine softR_val 42 _ (by kernel_rfl) rfl rfl ?_
      intro a W hx hout hdep
      have ev41 : a.tmps[41]?.getD undef = .pointer (some ⟨bc, 0, none⟩) := by rw [← Array.getD_eq_getD_getElem?]; exact (hdep ⟨2, .data⟩ (by simp) rfl 41 _ rfl).1
      refine ⟨rfl, .pointer (some ⟨bc, 0, none⟩), W, ?_, rfl, Ext.refl _⟩
      simp [ev41, execOp, go_sem]
    · refine softR_val 43 _ (by kernel_rfl) rfl rfl ?_
      intro a W hx hout hdep
      have ev42 : a.tmps[42]?.getD undef = .pointer (some ⟨bc, 0, none⟩) := by rw [← Array.getD_eq_getD_getElem?]; exact (hdep ⟨3, .data⟩ (by simp) rfl 42 _ rfl).1
      refine ⟨rfl, .pointer (some ⟨bc, 1, none⟩), W, ?_, rfl, Ext.refl _⟩
      simp [ev42, execOp, go_sem]
    · refine softR_val 44 _ (by kernel_rfl) rfl rfl ?_
      intro a W hx hout hdep
      have ev43 : a.tmps[43]?.getD undef = .pointer (some ⟨bc, 1, none⟩) := by rw [← Array.getD_eq_getD_getElem?]; exact (hdep ⟨4, .data⟩ (by simp) rfl 43 _ rfl).1
      have q0 := hx.keep d1
      refine ⟨rfl, vu, W, ?_, rfl, Ext.refl _⟩
      simp [ev43, q0, execOp, go_sem]
    · refine softR_call 45 _ (by kernel_rfl) rfl rfl ?_
      intro a W hx hout hdep
      have ev39 : a.tmps[39]?.getD undef = vr := by rw [← Array.getD_eq_getD_getElem?]; exact (hdep ⟨0, .data⟩ (by simp) rfl 39 _ rfl).1
      have ev40 : a.tmps[40]?.getD undef = Vp na := by rw [← Array.getD_eq_getD_getElem?]; exact (hdep ⟨1, .data⟩ (by simp) rfl 40 _ rfl).1
      have ev44 : a.tmps[44]?.getD undef = vu := by rw [← Array.getD_eq_getD_getElem?]; exact (hdep ⟨5, .data⟩ (by simp) rfl 44 _ rfl).1
      refine ⟨rfl, 61, #[vr, Vp na, vu], ?_, ?_⟩
      · simp [ev39, ev40, ev44, execOp, go_sem]
      · exact (hj1.out W hx).mono (by rintro e W1 ⟨v, rfl, h1, h2⟩; exact ⟨v, rfl, ⟨v, rfl, h1⟩, h2⟩)
    · refine softR_val 46 _ (by kernel_rfl) rfl rfl ?_
      intro a W hx hout hdep
      have ev7 : a.tmps[7]?.getD undef = .pointer (some ⟨bc, 0, none⟩) := by rw [← Array.getD_eq_getD_getElem?]; exact hout 7 (by show 7 ∉ [39, 40, 41, 42, 43, 44, 45, 46, 47, 48, 49, 50, 51, 52, 53, 54, 55, 56, 57, 58, 59, 60, 61, 62]; decide)
      refine ⟨rfl, .pointer (some ⟨bc, 0, none⟩), W, ?_, rfl, Ext.refl _⟩
      simp [ev7, execOp, go_sem]
    · refine softR_val 47 _ (by kernel_rfl) rfl rfl ?_
      intro a W hx hout hdep
      have ev46 : a.tmps[46]?.getD undef = .pointer (some ⟨bc, 0, none⟩) := by rw [← Array.getD_eq_getD_getElem?]; exact (hdep ⟨7, .data⟩ (by simp) rfl 46 _ rfl).1
      refine ⟨rfl, .pointer (some ⟨bc, 0, none⟩), W, ?_, rfl, Ext.refl _⟩
      simp [ev46, execOp, go_sem]
    · refine softR_val 48 _ (by kernel_rfl) rfl rfl ?_
      intro a W hx hout hdep
      have ev47 : a.tmps[47]?.getD undef = .pointer (some ⟨bc, 0, none⟩) := by rw [← Array.getD_eq_getD_getElem?]; exact (hdep ⟨8, .data⟩ (by simp) rfl 47 _ rfl).1
      refine ⟨rfl, .pointer (some ⟨bc, 0, none⟩), W, ?_, rfl, Ext.refl _⟩
      simp [ev47, execOp, go_sem]
    · refine softR_val 49 _ (by kernel_rfl) rfl rfl ?_
      intro a W hx hout hdep
      have ev48 : a.tmps[48]?.getD undef = .pointer (some ⟨bc, 0, none⟩) := by rw [← Array.getD_eq_getD_getElem?]; exact (hdep ⟨9, .data⟩ (by simp) rfl 48 _ rfl).1
      have q0 := hx.keep d0
      refine ⟨rfl, .pointer (some ⟨nc, 0, none⟩), W, ?_, rfl, Ext.refl _⟩
      simp [ev48, q0, execOp, go_sem]
    · refine softR_val 50 _ (by kernel_rfl) rfl rfl ?_
      intro a W hx hout hdep
      have ev7 : a.tmps[7]?.getD undef = .pointer (some ⟨bc, 0, none⟩) := by rw [← Array.getD_eq_getD_getElem?]; exact hout 7 (by show 7 ∉ [39, 40, 41, 42, 43, 44, 45, 46, 47, 48, 49, 50, 51, 52, 53, 54, 55, 56, 57, 58, 59, 60, 61, 62]; decide)
      refine ⟨rfl, .pointer (some ⟨bc, 0, none⟩), W, ?_, rfl, Ext.refl _⟩
      simp [ev7, execOp, go_sem]
    · refine softR_val 51 _ (by kernel_rfl) rfl rfl ?_
      intro a W hx hout hdep
      have ev50 : a.tmps[50]?.getD undef = .pointer (some ⟨bc, 0, none⟩) := by rw [← Array.getD_eq_getD_getElem?]; exact (hdep ⟨11, .data⟩ (by simp) rfl 50 _ rfl).1
      refine ⟨rfl, .pointer (some ⟨bc, 0, none⟩), W, ?_, rfl, Ext.refl _⟩
      simp [ev50, execOp, go_sem]
    · refine softR_val 52 _ (by kernel_rfl) rfl rfl ?_
      intro a W hx hout hdep
      have ev51 : a.tmps[51]?.getD undef = .pointer (some ⟨bc, 0, none⟩) := by rw [← Array.getD_eq_getD_getElem?]; exact (hdep ⟨12, .data⟩ (by simp) rfl 51 _ rfl).1
      refine ⟨rfl, .pointer (some ⟨bc, 2, none⟩), W, ?_, rfl, Ext.refl _⟩
      simp [ev51, execOp, go_sem]
    · refine softR_val 53 _ (by kernel_rfl) rfl rfl ?_
      intro a W hx hout hdep
      have ev52 : a.tmps[52]?.getD undef = .pointer (some ⟨bc, 2, none⟩) := by rw [← Array.getD_eq_getD_getElem?]; exact (hdep ⟨13, .data⟩ (by simp) rfl 52 _ rfl).1
      have q0 := hx.keep d2
      refine ⟨rfl, vz, W, ?_, rfl, Ext.refl _⟩
      simp [ev52, q0, execOp, go_sem]
    · refine softR_val 54 _ (by kernel_rfl) rfl rfl ?_
      intro a W hx hout hdep
      have ev2 : a.tmps[2]?.getD undef = .pointer (some ⟨ba, 0, none⟩) := by rw [← Array.getD_eq_getD_getElem?]; exact hout 2 (by show 2 ∉ [39, 40, 41, 42, 43, 44, 45, 46, 47, 48, 49, 50, 51, 52, 53, 54, 55, 56, 57, 58, 59, 60, 61, 62]; decide)
      refine ⟨rfl, .pointer (some ⟨ba, 0, none⟩), W, ?_, rfl, Ext.refl _⟩
      simp [ev2, execOp, go_sem]
    · refine softR_val 55 _ (by kernel_rfl) rfl rfl ?_
      intro a W hx hout hdep
      have ev54 : a.tmps[54]?.getD undef = .pointer (some ⟨ba, 0, none⟩) := by rw [← Array.getD_eq_getD_getElem?]; exact (hdep ⟨15, .data⟩ (by simp) rfl 54 _ rfl).1
      refine ⟨rfl, .pointer (some ⟨ba, 0, none⟩), W, ?_, rfl, Ext.refl _⟩
      simp [ev54, execOp, go_sem]
    · refine softR_val 56 _ (by kernel_rfl) rfl rfl ?_
      intro a W hx hout hdep
      have ev55 : a.tmps[55]?.getD undef = .pointer (some ⟨ba, 0, none⟩) := by rw [← Array.getD_eq_getD_getElem?]; exact (hdep ⟨16, .data⟩ (by simp) rfl 55 _ rfl).1
      refine ⟨rfl, .pointer (some ⟨ba, 0, none⟩), W, ?_, rfl, Ext.refl _⟩
      simp [ev55, execOp, go_sem]
    · refine softR_val 57 _ (by kernel_rfl) rfl rfl ?_
      intro a W hx hout hdep
      have ev56 : a.tmps[56]?.getD undef = .pointer (some ⟨ba, 0, none⟩) := by rw [← Array.getD_eq_getD_getElem?]; exact (hdep ⟨17, .data⟩ (by simp) rfl 56 _ rfl).1
      have q0 := hx.keep c0
      refine ⟨rfl, .pointer (some ⟨nb, 0, none⟩), W, ?_, rfl, Ext.refl _⟩
      simp [ev56, q0, execOp, go_sem]
    · refine softR_val 58 _ (by kernel_rfl) rfl rfl ?_
      intro a W hx hout hdep
      have ev2 : a.tmps[2]?.getD undef = .pointer (some ⟨ba, 0, none⟩) := by rw [← Array.getD_eq_getD_getElem?]; exact hout 2 (by show 2 ∉ [39, 40, 41, 42, 43, 44, 45, 46, 47, 48, 49, 50, 51, 52, 53, 54, 55, 56, 57, 58, 59, 60, 61, 62]; decide)
      refine ⟨rfl, .pointer (some ⟨ba, 0, none⟩), W, ?_, rfl, Ext.refl _⟩
      simp [ev2, execOp, go_sem]
    · refine softR_val 59 _ (by kernel_rfl) rfl rfl ?_
      intro a W hx hout hdep
      have ev58 : a.tmps[58]?.getD undef = .pointer (some ⟨ba, 0, none⟩) := by rw [← Array.getD_eq_getD_getElem?]; exact (hdep ⟨19, .data⟩ (by simp) rfl 58 _ rfl).1
      refine ⟨rfl, .pointer (some ⟨ba, 0, none⟩), W, ?_, rfl, Ext.refl _⟩
      simp [ev58, execOp, go_sem]
    · refine softR_val 60 _ (by kernel_rfl) rfl rfl ?_
      intro a W hx hout hdep
      have ev59 : a.tmps[59]?.getD undef = .pointer (some ⟨ba, 0, none⟩) := by rw [← Array.getD_eq_getD_getElem?]; exact (hdep ⟨20, .data⟩ (by simp) rfl 59 _ rfl).1
      refine ⟨rfl, .pointer (some ⟨ba, 2, none⟩), W, ?_, rfl, Ext.refl _⟩
      simp [ev59, execOp, go_sem]
    · refine softR_val 61 _ (by kernel_rfl) rfl rfl ?_
      intro a W hx hout hdep
      have ev60 : a.tmps[60]?.getD undef = .pointer (some ⟨ba, 2, none⟩) := by rw [← Array.getD_eq_getD_getElem?]; exact (hdep ⟨21, .data⟩ (by simp) rfl 60 _ rfl).1
      have q0 := hx.keep c2
      refine ⟨rfl, vy, W, ?_, rfl, Ext.refl _⟩
      simp [ev60, q0, execOp, go_sem]
    · refine softR_call 62 _ (by kernel_rfl) rfl rfl ?_
      intro a W hx hout hdep
      have ev53 : a.tmps[53]?.getD undef = vz := by rw [← Array.getD_eq_getD_getElem?]; exact (hdep ⟨14, .data⟩ (by simp) rfl 53 _ rfl).1
      have ev57 : a.tmps[57]?.getD undef = .pointer (some ⟨nb, 0, none⟩) := by rw [← Array.getD_eq_getD_getElem?]; exact (hdep ⟨18, .data⟩ (by simp) rfl 57 _ rfl).1
      have ev61 : a.tmps[61]?.getD undef = vy := by rw [← Array.getD_eq_getD_getElem?]; exact (hdep ⟨22, .data⟩ (by simp) rfl 61 _ rfl).1
      refine ⟨rfl, 61, #[vz, Vp nb, vy], ?_, ?_⟩
      · simp [ev53, ev57, ev61, execOp, go_sem]
      · exact (hj2.out W hx).mono (by rintro e W1 ⟨v, rfl, h1, h2⟩; exact ⟨v, rfl, ⟨v, rfl, h1⟩, h2⟩)


set_option maxRecDepth 100000 in
set_option maxHeartbeats 4000000 in
theorem balH_any {G : Nat → Prop} {ad : I2 → Nat} (l r : HT) (a : I2) (vl vr : Value) (w : World) (hl : HV G w ad l vl) (hr : HV G w ad r vr) (hG : Up G w) (hb : (hin l).length + (hin r).length ≤ 40000) :
    Calls Try.prog 62 #[vl, Vp (ad a), vr] w (RetHt G ad w (balH l a r)) := by
  have g1 := hh_le l
  have g2 := hh_le r
  have h1 := Lib.hid (fun n (e : hh l = n) => high_lit hl e)
  have h2 := Lib.hid (fun n (e : hh r = n) => high_lit hr e)
  by_cases c1 : hh r + 1 < hh l
  · have hres : balH l a r = leanM l a r := by unfold balH; rw [if_pos c1]
    rw [hres]
    obtain ⟨x, b, y, rfl⟩ := hh_pos (show 0 < hh l by omega)
    have hc := Lib.hid (leanM_any x y r a b vl vr w hl hr hG (by omega))
    have hd : decide (((hh r : Int) + 1) < (hh (.node x b y) : Int)) = true := by rw [decide_eq_true_eq]; omega
    replace h1 := Lib.hid (h1.out _ rfl)
    replace h2 := Lib.hid (h2.out _ rfl)
    clear hres hl hr hG
    generalize hh (.node x b y) = k1 at *
    generalize hh r = k2 at *
    generalize leanM (.node x b y) a r = T at *
    generalize ad a = na at *
    go_enter Try.func62, Try.ntmps62
    go_wp2_with fail
    refine h1.out.mono ?_
    rintro e w1 ⟨rfl, rfl⟩
    go_wp2_with fail
    refine h2.out.mono ?_
    rintro e w2 ⟨rfl, rfl⟩
    go_wp2_with fail
    refine hc.out.mono ?_
    rintro e w3 ⟨v, rfl, h3, x3⟩
    go_wp2
    go_ret
    exact ⟨v, rfl, h3, x3⟩
  · have hd : decide (((hh r : Int) + 1) < (hh l : Int)) = false := by rw [decide_eq_false_iff_not]; omega
    by_cases c2 : hh l + 1 < hh r
    · have hres : balH l a r = leanS l a r := by unfold balH; rw [if_neg c1, if_pos c2]
      rw [hres]
      obtain ⟨x, b, y, rfl⟩ := hh_pos (show 0 < hh r by omega)
      have hc := Lib.hid (leanS_any x y l a b vr vl w hr hl hG (by omega))
      have hd2 : decide (((hh l : Int) + 1) < (hh (.node x b y) : Int)) = true := by rw [decide_eq_true_eq]; omega
      replace h1 := Lib.hid (h1.out _ rfl)
      replace h2 := Lib.hid (h2.out _ rfl)
      clear hres hl hr hG
      generalize hh (.node x b y) = k1 at *
      generalize hh l = k2 at *
      generalize leanS l a (.node x b y) = T at *
      generalize ad a = na at *
      go_enter Try.func62, Try.ntmps62
      go_wp2_with fail
      refine h1.out.mono ?_
      rintro e w1 ⟨rfl, rfl⟩
      go_wp2_with fail
      refine h2.out.mono ?_
      rintro e w2 ⟨rfl, rfl⟩
      go_wp2_with fail
      refine h2.out.mono ?_
      rintro e w3 ⟨rfl, rfl⟩
      go_wp2_with fail
      refine h1.out.mono ?_
      rintro e w4 ⟨rfl, rfl⟩
      go_wp2_with fail
      refine hc.out.mono ?_
      rintro e w5 ⟨v, rfl, h5, x5⟩
      go_wp2
      go_ret
      exact ⟨v, rfl, h5, x5⟩
    · have hd2 : decide (((hh l : Int) + 1) < (hh r : Int)) = false := by rw [decide_eq_false_iff_not]; omega
      have hres : balH l a r = .node l a r := by unfold balH; rw [if_neg c1, if_neg c2]
      rw [hres]
      have hc := Lib.hid (joinH_any l r a vl vr w hl hr hG (by omega))
      replace h1 := Lib.hid (h1.out _ rfl)
      replace h2 := Lib.hid (h2.out _ rfl)
      clear hres hl hr hG
      generalize hh r = k1 at *
      generalize hh l = k2 at *
      generalize HT.node l a r = T at *
      generalize ad a = na at *
      go_enter Try.func62, Try.ntmps62
      go_wp2_with fail
      refine h1.out.mono ?_
      rintro e w1 ⟨rfl, rfl⟩
      go_wp2_with fail
      refine h2.out.mono ?_
      rintro e w2 ⟨rfl, rfl⟩
      go_wp2_with fail
      refine h2.out.mono ?_
      rintro e w3 ⟨rfl, rfl⟩
      go_wp2_with fail
      refine h1.out.mono ?_
      rintro e w4 ⟨rfl, rfl⟩
      go_wp2_with fail
      refine hc.out.mono ?_
      rintro e w5 ⟨v, rfl, h5, x5⟩
      go_wp2
      go_ret
      exact ⟨v, rfl, h5, x5⟩

set_option maxRecDepth 100000 in
set_option maxHeartbeats 8000000 in
theorem with_any {G : Nat → Prop} {ad : I2 → Nat} (a : I2) : ∀ (t : HT) (v : Value) (w : World), HV G w ad t v → NdIds w ad (hin t) → NdIds w ad [a] → a ∉ hin t → Up G w → (hin t).length ≤ 30000 →
    Calls Try.prog 36 #[v, Vp (ad a)] w (RetHt G ad w (insH t a)) := by
  intro t
  induction t with
  | nil =>
    intro v w hv _ _ _ hG _
    have hv : v = Vnil := hv
    subst hv
    have hc := Lib.hid (joinH_any (ad := ad) .nil .nil a Vnil Vnil w rfl rfl hG (by simp [hin]))
    rw [show insH .nil a = .node .nil a .nil from rfl]
    generalize HT.node HT.nil a HT.nil = T at *
    generalize ad a = na at *
    go_enter Try.func36, Try.ntmps36
    go_wp2_with fail
    refine hc.out.mono ?_
    rintro e w5 ⟨v, rfl, h5, x5⟩
    go_wp2
    go_ret
    exact ⟨v, rfl, h5, x5⟩
  | node x b y ih1 ih2 =>
    intro v w hv hI hA hn hG hb
    obtain ⟨ba, vx, vy, rfl, c0, c1, c2, hx, hy⟩ := hv.open
    have hbi := hI b (List.mem_append_right _ (List.mem_cons_self ..))
    have hai := hA a (List.mem_singleton.2 rfl)
    have hne : a ≠ b := fun e => hn (List.mem_append_right _ (by rw [e]; exact List.mem_cons_self ..))
    rw [hin_node] at hn hI
    rw [hin_node, List.length_append, List.length_cons] at hb
    have l1 := insH_len x a
    have l2 := insH_len y a
    by_cases ho : ltI a b = true
    · have hres : insH (.node x b y) a = balH (insH x a) b y := by rw [insH, if_pos ho]
      rw [hres]
      have hcm : cmpId a.1 a.2 b.1 b.2 = -1 := by
        rcases cmp3 a.1 a.2 b.1 b.2 with ⟨h, _⟩ | ⟨_, h1, h2⟩ | ⟨_, h⟩
        · exact h
        · exact absurd (Prod.ext h1 h2) hne
        · have := ltI_asymm ho; rw [show ltI b a = true from h] at this; cases this
      have hj := Lib.hid (fun W (e : Ext w W) => ih1 vx W (hx.ext e) (fun q hq => (hI.ext e) q (List.mem_append_left _ hq)) (hA.ext e) (fun e => hn (List.mem_append_left _ e)) (hG.ext e) (by omega))
      have hk := Lib.hid (fun W v9 (e : Ext w W) (h9 : HV G W ad (insH x a) v9) => balH_any (insH x a) y b v9 vy W h9 (hy.ext e) (hG.ext e) (by omega))
      have hcall := Lib.hid (fun W => cmp_lit hcm W)
      have x1 : Ext w w.drew := (Ext.refl w).drew
      have c0 := x1.keep c0
      have c1 := x1.keep c1
      have c2 := x1.keep c2
      obtain ⟨i0, i1⟩ := hbi
      obtain ⟨j0, j1⟩ := hai
      have i0 := x1.keep i0
      have i1 := x1.keep i1
      have j0 := x1.keep j0
      have j1 := x1.keep j1
      clear hx hy hI hA hn hG hb l1 l2 ih1 ih2 hcm ho hne hres hv
      generalize ad a = na at *
      generalize ad b = nb at *
      obtain ⟨a1, a2⟩ := a
      obtain ⟨b1, b2⟩ := b
      simp only at i0 i1 j0 j1 hcall
      go_enter Try.func36, Try.ntmps36
      go_wp2
      refine wp_region_still_tail 13 (by kernel_rfl) (by kernel_rfl) ?_
      simp only [List.take_succ_cons, List.take_zero, List.drop_succ_cons, List.drop_zero]
      change wpStill Try.prog _ w.drew (fun a' => wpList Try.prog _ _ _ a' w.drew) _ _
      replace hj := Lib.hid (fun W (e : Ext w.drew W) => hj.out W (x1.trans e))
      replace hk := Lib.hid (fun W v9 (e : Ext w.drew W) h9 => hk.out W v9 (x1.trans e) h9)
      generalize w.drew = w2 at *
      repeat still_step
      refine wpStill_nil ?_
      go_wp2_with fail
      refine (hcall.out _).mono ?_
      rintro e w1 ⟨rfl, x3⟩
      replace c0 := x3.keep c0
      replace c1 := x3.keep c1
      replace c2 := x3.keep c2
      replace x1 := x1.trans x3
      replace hj := Lib.hid (fun W (e : Ext w1 W) => hj.out W (x3.trans e))
      replace hk := Lib.hid (fun W v9 (e : Ext w1 W) h9 => hk.out W v9 (x3.trans e) h9)
      clear i0 i1 j0 j1 hcall x3
      go_wp2_with fail
      refine wp_soft_frame Ext 14 (hwTab4 G ad ba na nb vx vy x y a1 a2 b1 b2) (by kernel_rfl) (by kernel_rfl) (fun _ _ _ => Ext.trans) ((Ext.refl _).drew) rfl (by show List.Nodup [24, 25, 26, 27, 28, 29, 30, 31, 32, 33, 34, 35, 36, 37]; decide) (by show ∀ d ∈ [24, 25, 26, 27, 28, 29, 30, 31, 32, 33, 34, 35, 36, 37], d < 54; decide) (hwTab4_mono G ad ba na nb vx vy x y a1 a2 b1 b2 Ext (fun _ _ h => h)) ?_ ⟨?_, ?_, ?_, ?_, ?_, ?_, ?_, ?_, ?_, ?_, ?_, ?_, ?_, ?_, trivial⟩
      · intro W vs hT hR
        match vs, hT with
        | [v0, v1, v2, v3, v4, v5, v6, v7, v8, v9, v10, v11, v12, v13], ⟨e0, e1, e2, e3, e4, e5, e6, e7, e8, e9, e10, e11, e12, e13, _⟩ =>
          simp only [hwTab4, List.map_cons, List.map_nil, List.zip_cons_cons, List.zip_nil_left, putAll, List.setIfInBounds_toArray, List.set_cons_zero, List.set_cons_succ, List.drop_succ_cons, List.drop_zero]
          simp only at e0 e1 e2 e3 e4 e6 e7 e8 e9 e10 e11 e12 e13
          obtain ⟨q5, e5, h5⟩ := e5
          rw [e0, e1, e2, e3, e4, e5, e6, e7, e8, e9, e10, e11, e12, e13]
          clear e0 e1 e2 e3 e4 e5 e6 e7 e8 e9 e10 e11 e12 e13 v0 v1 v2 v3 v4 v5 v6 v7 v8 v9 v10 v11 v12 v13
          go_wp2_with fail
          refine (hk.out W _ hR h5).mono ?_
          rintro e w4 ⟨v4, rfl, o4, x4⟩
          go_wp2
          go_ret
          exact ⟨v4, rfl, o4, x1.trans (hR.trans x4)⟩
      · refine softR_val 24 _ (by kernel_rfl) rfl rfl ?_
        intro a W hx hout hdep
        have ev0 : a.tmps[0]?.getD undef = .pointer (some ⟨ba, 0, none⟩) := by rw [← Array.getD_eq_getD_getElem?]; exact hout 0 (by show 0 ∉ [24, 25, 26, 27, 28, 29, 30, 31, 32, 33, 34, 35, 36, 37]; decide)
        refine ⟨rfl, .pointer (some ⟨ba, 0, none⟩), W, ?_, rfl, Ext.refl _⟩
        simp [ev0, execOp, go_sem]
      · refine softR_val 25 _ (by kernel_rfl) rfl rfl ?_
        intro a W hx hout hdep
        have ev24 : a.tmps[24]?.getD undef = .pointer (some ⟨ba, 0, none⟩) := by rw [← Array.getD_eq_getD_getElem?]; exact (hdep ⟨0, .data⟩ (by simp) rfl 24 _ rfl).1
        refine ⟨rfl, .pointer (some ⟨ba, 0, none⟩), W, ?_, rfl, Ext.refl _⟩
        simp [ev24, execOp, go_sem]
      · refine softR_val 26 _ (by kernel_rfl) rfl rfl ?_
        intro a W hx hout hdep
        have ev25 : a.tmps[25]?.getD undef = .pointer (some ⟨ba, 0, none⟩) := by rw [← Array.getD_eq_getD_getElem?]; exact (hdep ⟨1, .data⟩ (by simp) rfl 25 _ rfl).1
        refine ⟨rfl, .pointer (some ⟨ba, 1, none⟩), W, ?_, rfl, Ext.refl _⟩
        simp [ev25, execOp, go_sem]
      · refine softR_val 27 _ (by kernel_rfl) rfl rfl ?_
        intro a W hx hout hdep
        have ev26 : a.tmps[26]?.getD undef = .pointer (some ⟨ba, 1, none⟩) := by rw [← Array.getD_eq_getD_getElem?]; exact (hdep ⟨2, .data⟩ (by simp) rfl 26 _ rfl).1
        have q0 := hx.keep c1
        refine ⟨rfl, vx, W, ?_, rfl, Ext.refl _⟩
        simp [ev26, q0, execOp, go_sem]
      · refine softR_val 28 _ (by kernel_rfl) rfl rfl ?_
        intro a W hx hout hdep
        have ev1 : a.tmps[1]?.getD undef = Vp na := by rw [← Array.getD_eq_getD_getElem?]; exact hout 1 (by show 1 ∉ [24, 25, 26, 27, 28, 29, 30, 31, 32, 33, 34, 35, 36, 37]; decide)
        refine ⟨rfl, Vp na, W, ?_, rfl, Ext.refl _⟩
        simp [ev1, execOp, go_sem]
      · refine softR_call 29 _ (by kernel_rfl) rfl rfl ?_
        intro a W hx hout hdep
        have ev27 : a.tmps[27]?.getD undef = vx := by rw [← Array.getD_eq_getD_getElem?]; exact (hdep ⟨3, .data⟩ (by simp) rfl 27 _ rfl).1
        have ev28 : a.tmps[28]?.getD undef = Vp na := by rw [← Array.getD_eq_getD_getElem?]; exact (hdep ⟨4, .data⟩ (by simp) rfl 28 _ rfl).1
        refine ⟨rfl, 36, #[vx, Vp na], ?_, ?_⟩
        · simp [ev27, ev28, execOp, go_sem]
        · exact (hj.out W hx).mono (by rintro e W1 ⟨v, rfl, h1, h2⟩; exact ⟨v, rfl, ⟨v, rfl, h1⟩, h2⟩)
      · refine softR_val 30 _ (by kernel_rfl) rfl rfl ?_
        intro a W hx hout hdep
        have ev0 : a.tmps[0]?.getD undef = .pointer (some ⟨ba, 0, none⟩) := by rw [← Array.getD_eq_getD_getElem?]; exact hout 0 (by show 0 ∉ [24, 25, 26, 27, 28, 29, 30, 31, 32, 33, 34, 35, 36, 37]; decide)
        refine ⟨rfl, .pointer (some ⟨ba, 0, none⟩), W, ?_, rfl, Ext.refl _⟩
        simp [ev0, execOp, go_sem]
      · refine softR_val 31 _ (by kernel_rfl) rfl rfl ?_
        intro a W hx hout hdep
        have ev30 : a.tmps[30]?.getD undef = .pointer (some ⟨ba, 0, none⟩) := by rw [← Array.getD_eq_getD_getElem?]; exact (hdep ⟨6, .data⟩ (by simp) rfl 30 _ rfl).1
        refine ⟨rfl, .pointer (some ⟨ba, 0, none⟩), W, ?_, rfl, Ext.refl _⟩
        simp [ev30, execOp, go_sem]
      · refine softR_val 32 _ (by kernel_rfl) rfl rfl ?_
        intro a W hx hout hdep
        have ev31 : a.tmps[31]?.getD undef = .pointer (some ⟨ba, 0, none⟩) := by rw [← Array.getD_eq_getD_getElem?]; exact (hdep ⟨7, .data⟩ (by simp) rfl 31 _ rfl).1
        refine ⟨rfl, .pointer (some ⟨ba, 0, none⟩), W, ?_, rfl, Ext.refl _⟩
        simp [ev31, execOp, go_sem]
      · refine softR_val 33 _ (by kernel_rfl) rfl rfl ?_
        intro a W hx hout hdep
        have ev32 : a.tmps[32]?.getD undef = .pointer (some ⟨ba, 0, none⟩) := by rw [← Array.getD_eq_getD_getElem?]; exact (hdep ⟨8, .data⟩ (by simp) rfl 32 _ rfl).1
        have q0 := hx.keep c0
        refine ⟨rfl, .pointer (some ⟨nb, 0, none⟩), W, ?_, rfl, Ext.refl _⟩
        simp [ev32, q0, execOp, go_sem]
      · refine softR_val 34 _ (by kernel_rfl) rfl rfl ?_
        intro a W hx hout hdep
        have ev0 : a.tmps[0]?.getD undef = .pointer (some ⟨ba, 0, none⟩) := by rw [← Array.getD_eq_getD_getElem?]; exact hout 0 (by show 0 ∉ [24, 25, 26, 27, 28, 29, 30, 31, 32, 33, 34, 35, 36, 37]; decide)
        refine ⟨rfl, .pointer (some ⟨ba, 0, none⟩), W, ?_, rfl, Ext.refl _⟩
        simp [ev0, execOp, go_sem]
      · refine softR_val 35 _ (by kernel_rfl) rfl rfl ?_
        intro a W hx hout hdep
        have ev34 : a.tmps[34]?.getD undef = .pointer (some ⟨ba, 0, none⟩) := by rw [← Array.getD_eq_getD_getElem?]; exact (hdep ⟨10, .data⟩ (by simp) rfl 34 _ rfl).1
        refine ⟨rfl, .pointer (some ⟨ba, 0, none⟩), W, ?_, rfl, Ext.refl _⟩
        simp [ev34, execOp, go_sem]
      · refine softR_val 36 _ (by kernel_rfl) rfl rfl ?_
        intro a W hx hout hdep
        have ev35 : a.tmps[35]?.getD undef = .pointer (some ⟨ba, 0, none⟩) := by rw [← Array.getD_eq_getD_getElem?]; exact (hdep ⟨11, .data⟩ (by simp) rfl 35 _ rfl).1
        refine ⟨rfl, .pointer (some ⟨ba, 2, none⟩), W, ?_, rfl, Ext.refl _⟩
        simp [ev35, execOp, go_sem]
      · refine softR_val 37 _ (by kernel_rfl) rfl rfl ?_
        intro a W hx hout hdep
        have ev36 : a.tmps[36]?.getD undef = .pointer (some ⟨ba, 2, none⟩) := by rw [← Array.getD_eq_getD_getElem?]; exact (hdep ⟨12, .data⟩ (by simp) rfl 36 _ rfl).1
        have q0 := hx.keep c2
        refine ⟨rfl, vy, W, ?_, rfl, Ext.refl _⟩
        simp [ev36, q0, execOp, go_sem]
    · have hres : insH (.node x b y) a = balH x b (insH y a) := by rw [insH, if_neg ho]
      rw [hres]
      have ho' := (ltI_total hne).resolve_left ho
      have hcm : cmpId a.1 a.2 b.1 b.2 = 1 := by
        rcases cmp3 a.1 a.2 b.1 b.2 with ⟨_, h⟩ | ⟨_, h1, h2⟩ | ⟨h, _⟩
        · exact absurd h ho
        · exact absurd (Prod.ext h1 h2) hne
        · exact h
      have hj := Lib.hid (fun W (e : Ext w W) => ih2 vy W (hy.ext e) (fun q hq => (hI.ext e) q (List.mem_append_right _ (List.mem_cons_of_mem _ hq))) (hA.ext e) (fun e => hn (List.mem_append_right _ (List.mem_cons_of_mem _ e))) (hG.ext e) (by omega))
      have hk := Lib.hid (fun W v9 (e : Ext w W) (h9 : HV G W ad (insH y a) v9) => balH_any x (insH y a) b vx v9 W (hx.ext e) h9 (hG.ext e) (by omega))
      have hcall := Lib.hid (fun W => cmp_lit hcm W)
      have x1 : Ext w w.drew := (Ext.refl w).drew
      have c0 := x1.keep c0
      have c1 := x1.keep c1
      have c2 := x1.keep c2
      obtain ⟨i0, i1⟩ := hbi
      obtain ⟨j0, j1⟩ := hai
      have i0 := x1.keep i0
      have i1 := x1.keep i1
      have j0 := x1.keep j0
      have j1 := x1.keep j1
      clear hx hy hI hA hn hG hb l1 l2 ih1 ih2 hcm ho hne hres hv ho'
      generalize ad a = na at *
      generalize ad b = nb at *
      obtain ⟨a1, a2⟩ := a
      obtain ⟨b1, b2⟩ := b
      simp only at i0 i1 j0 j1 hcall
      go_enter Try.func36, Try.ntmps36
      go_wp2
      refine wp_region_still_tail 13 (by kernel_rfl) (by kernel_rfl) ?_
      simp only [List.take_succ_cons, List.take_zero, List.drop_succ_cons, List.drop_zero]
      change wpStill Try.prog _ w.drew (fun a' => wpList Try.prog _ _ _ a' w.drew) _ _
      replace hj := Lib.hid (fun W (e : Ext w.drew W) => hj.out W (x1.trans e))
      replace hk := Lib.hid (fun W v9 (e : Ext w.drew W) h9 => hk.out W v9 (x1.trans e) h9)
      generalize w.drew = w2 at *
      repeat still_step
      refine wpStill_nil ?_
      go_wp2_with fail
      refine (hcall.out _).mono ?_
      rintro e w1 ⟨rfl, x3⟩
      replace c0 := x3.keep c0
      replace c1 := x3.keep c1
      replace c2 := x3.keep c2
      replace x1 := x1.trans x3
      replace hj := Lib.hid (fun W (e : Ext w1 W) => hj.out W (x3.trans e))
      replace hk := Lib.hid (fun W v9 (e : Ext w1 W) h9 => hk.out W v9 (x3.trans e) h9)
      clear i0 i1 j0 j1 hcall x3
      go_wp2_with fail
      refine wp_soft_frame Ext 14 (hwTab5 G ad ba na nb vx vy x y a1 a2 b1 b2) (by kernel_rfl) (by kernel_rfl) (fun _ _ _ => Ext.trans) ((Ext.refl _).drew) rfl (by show List.Nodup [39, 40, 41, 42, 43, 44, 45, 46, 47, 48, 49, 50, 51, 52]; decide) (by show ∀ d ∈ [39, 40, 41, 42, 43, 44, 45, 46, 47, 48, 49, 50, 51, 52], d < 54; decide) (hwTab5_mono G ad ba na nb vx vy x y a1 a2 b1 b2 Ext (fun _ _ h => h)) ?_ ⟨?_, ?_, ?_, ?_, ?_, ?_, ?_, ?_, ?_, ?_, ?_, ?_, ?_, ?_, trivial⟩
      · intro W vs hT hR
        match vs, hT with
        | [v0, v1, v2, v3, v4, v5, v6, v7, v8, v9, v10, v11, v12, v13], ⟨e0, e1, e2, e3, e4, e5, e6, e7, e8, e9, e10, e11, e12, e13, _⟩ =>
          simp only [hwTab5, List.map_cons, List.map_nil, List.zip_cons_cons, List.zip_nil_left, putAll, List.setIfInBounds_toArray, List.set_cons_zero, List.set_cons_succ, List.drop_succ_cons, List.drop_zero]
          simp only at e0 e1 e2 e3 e4 e5 e6 e7 e8 e9 e10 e11 e12
          obtain ⟨q13, e13, h13⟩ := e13
          rw [e0, e1, e2, e3, e4, e5, e6, e7, e8, e9, e10, e11, e12, e13]
          clear e0 e1 e2 e3 e4 e5 e6 e7 e8 e9 e10 e11 e12 e13 v0 v1 v2 v3 v4 v5 v6 v7 v8 v9 v10 v11 v12 v13
          go_wp2_with fail
          refine (hk.out W _ hR h13).mono ?_
          rintro e w4 ⟨v4, rfl, o4, x4⟩
          go_wp2
          go_ret
          exact ⟨v4, rfl, o4, x1.trans (hR.trans x4)⟩
      · refine softR_val 39 _ (by kernel_rfl) rfl rfl ?_
        intro a W hx hout hdep
        have ev0 : a.tmps[0]?.getD undef = .pointer (some ⟨ba, 0, none⟩) := by rw [← Array.getD_eq_getD_getElem?]; exact hout 0 (by show 0 ∉ [39, 40, 41, 42, 43, 44, 45, 46, 47, 48, 49, 50, 51, 52]; decide)
        refine ⟨rfl, .pointer (some ⟨ba, 0, none⟩), W, ?_, rfl, Ext.refl _⟩
        simp [ev0, execOp, go_sem]
      · refine softR_val 40 _ (by kernel_rfl) rfl rfl ?_
        intro a W hx hout hdep
        have ev39 : a.tmps[39]?.getD undef = .pointer (some ⟨ba, 0, none⟩) := by rw [← Array.getD_eq_getD_getElem?]; exact (hdep ⟨0, .data⟩ (by simp) rfl 39 _ rfl).1
        refine ⟨rfl, .pointer (some ⟨ba, 0, none⟩), W, ?_, rfl, Ext.refl _⟩
        simp [ev39, execOp, go_sem]
      · refine softR_val 41 _ (by kernel_rfl) rfl rfl ?_
        intro a W hx hout hdep
        have ev40 : a.tmps[40]?.getD undef = .pointer (some ⟨ba, 0, none⟩) := by rw [← Array.getD_eq_getD_getElem?]; exact (hdep ⟨1, .data⟩ (by simp) rfl 40 _ rfl).1
        refine ⟨rfl, .pointer (some ⟨ba, 1, none⟩), W, ?_, rfl, Ext.refl _⟩
        simp [ev40, execOp, go_sem]
      · refine softR_val 42 _ (by kernel_rfl) rfl rfl ?_
        intro a W hx hout hdep
        have ev41 : a.tmps[41]?.getD undef = .pointer (some ⟨ba, 1, none⟩) := by rw [← Array.getD_eq_getD_getElem?]; exact (hdep ⟨2, .data⟩ (by simp) rfl 41 _ rfl).1
        have q0 := hx.keep c1
        refine ⟨rfl, vx, W, ?_, rfl, Ext.refl _⟩
        simp [ev41, q0, execOp, go_sem]
      · refine softR_val 43 _ (by kernel_rfl) rfl rfl ?_
        intro a W hx hout hdep
        have ev0 : a.tmps[0]?.getD undef = .pointer (some ⟨ba, 0, none⟩) := by rw [← Array.getD_eq_getD_getElem?]; exact hout 0 (by show 0 ∉ [39, 40, 41, 42, 43, 44, 45, 46, 47, 48, 49, 50, 51, 52]; decide)
        refine ⟨rfl, .pointer (some ⟨ba, 0, none⟩), W, ?_, rfl, Ext.refl _⟩
        simp [ev0, execOp, go_sem]
      · refine softR_val 44 _ (by kernel_rfl) rfl rfl ?_
        intro a W hx hout hdep
        have ev43 : a.tmps[43]?.getD undef = .pointer (some ⟨ba, 0, none⟩) := by rw [← Array.getD_eq_getD_getElem?]; exact (hdep ⟨4, .data⟩ (by simp) rfl 43 _ rfl).1
        refine ⟨rfl, .pointer (some ⟨ba, 0, none⟩), W, ?_, rfl, Ext.refl _⟩
        simp [ev43, execOp, go_sem]
      · refine softR_val 45 _ (by kernel_rfl) rfl rfl ?_
        intro a W hx hout hdep
        have ev44 : a.tmps[44]?.getD undef = .pointer (some ⟨ba, 0, none⟩) := by rw [← Array.getD_eq_getD_getElem?]; exact (hdep ⟨5, .data⟩ (by simp) rfl 44 _ rfl).1
        refine ⟨rfl, .pointer (some ⟨ba, 0, none⟩), W, ?_, rfl, Ext.refl _⟩
        simp [ev44, execOp, go_sem]
      · refine softR_val 46 _ (by kernel_rfl) rfl rfl ?_
        intro a W hx hout hdep
        have ev45 : a.tmps[45]?.getD undef = .pointer (some ⟨ba, 0, none⟩) := by rw [← Array.getD_eq_getD_getElem?]; exact (hdep ⟨6, .data⟩ (by simp) rfl 45 _ rfl).1
        have q0 := hx.keep c0
        refine ⟨rfl, .pointer (some ⟨nb, 0, none⟩), W, ?_, rfl, Ext.refl _⟩
        simp [ev45, q0, execOp, go_sem]
      · refine softR_val 47 _ (by kernel_rfl) rfl rfl ?_
        intro a W hx hout hdep
        have ev0 : a.tmps[0]?.getD undef = .pointer (some ⟨ba, 0, none⟩) := by rw [← Array.getD_eq_getD_getElem?]; exact hout 0 (by show 0 ∉ [39, 40, 41, 42, 43, 44, 45, 46, 47, 48, 49, 50, 51, 52]; decide)
        refine ⟨rfl, .pointer (some ⟨ba, 0, none⟩), W, ?_, rfl, Ext.refl _⟩
        simp [ev0, execOp, go_sem]
      · refine softR_val 48 _ (by kernel_rfl) rfl rfl ?_
        intro a W hx hout hdep
        have ev47 : a.tmps[47]?.getD undef = .pointer (some ⟨ba, 0, none⟩) := by rw [← Array.getD_eq_getD_getElem?]; exact (hdep ⟨8, .data⟩ (by simp) rfl 47 _ rfl).1
        refine ⟨rfl, .pointer (some ⟨ba, 0, none⟩), W, ?_, rfl, Ext.refl _⟩
        simp [ev47, execOp, go_sem]
      · refine softR_val 49 _ (by kernel_rfl) rfl rfl ?_
        intro a W hx hout hdep
        have ev48 : a.tmps[48]?.getD undef = .pointer (some ⟨ba, 0, none⟩) := by rw [← Array.getD_eq_getD_getElem?]; exact (hdep ⟨9, .data⟩ (by simp) rfl 48 _ rfl).1
        refine ⟨rfl, .pointer (some ⟨ba, 2, none⟩), W, ?_, rfl, Ext.refl _⟩
        simp [ev48, execOp, go_sem]
      · refine softR_val 50 _ (by kernel_rfl) rfl rfl ?_
        intro a W hx hout hdep
        have ev49 : a.tmps[49]?.getD undef = .pointer (some ⟨ba, 2, none⟩) := by rw [← Array.getD_eq_getD_getElem?]; exact (hdep ⟨10, .data⟩ (by simp) rfl 49 _ rfl).1
        have q0 := hx.keep c2
        refine ⟨rfl, vy, W, ?_, rfl, Ext.refl _⟩
        simp [ev49, q0, execOp, go_sem]
      · refine softR_val 51 _ (by kernel_rfl) rfl rfl ?_
        intro a W hx hout hdep
        have ev1 : a.tmps[1]?.getD undef = Vp na := by rw [← Array.getD_eq_getD_getElem?]; exact hout 1 (by show 1 ∉ [39, 40, 41, 42, 43, 44, 45, 46, 47, 48, 49, 50, 51, 52]; decide)
        refine ⟨rfl, Vp na, W, ?_, rfl, Ext.refl _⟩
        simp [ev1, execOp, go_sem]
      · refine softR_call 52 _ (by kernel_rfl) rfl rfl ?_
        intro a W hx hout hdep
        have ev50 : a.tmps[50]?.getD undef = vy := by rw [← Array.getD_eq_getD_getElem?]; exact (hdep ⟨11, .data⟩ (by simp) rfl 50 _ rfl).1
        have ev51 : a.tmps[51]?.getD undef = Vp na := by rw [← Array.getD_eq_getD_getElem?]; exact (hdep ⟨12, .data⟩ (by simp) rfl 51 _ rfl).1
        refine ⟨rfl, 36, #[vy, Vp na], ?_, ?_⟩
        · simp [ev50, ev51, execOp, go_sem]
        · exact (hj.out W hx).mono (by rintro e W1 ⟨v, rfl, h1, h2⟩; exact ⟨v, rfl, ⟨v, rfl, h1⟩, h2⟩)

end Go.Proofs.Ytmpomammieenjaa

namespace Go.Proofs.Ytmpomammieenjaa
open Go.ChangeShapes Go.WideShapes Go.ChangeAt Go.RowKit Go.Sort
set_option linter.unusedVariables false
set_option linter.unusedSimpArgs false
attribute [local go_sem] World.cell?_alloc_some

theorem PV.avoid {F : Nat → Prop} {W : World} {q : Nat} {T : TypeId} (hq : W.heap[q]? = some (.cells #[.slice none 0 0, .pointer none, .pointer none, Vi 0, Vi 0, Vi 0, Vq 0, Vq 0] T (0, 0))) :
    ∀ {t : Tr} {c l r : Value}, (t = .leaf [] ∨ okR t) → PV F W t c l r → PV (fun b => F b ∧ b ≠ q) W t c l r
  | .leaf l, c, lf, rt, _, ⟨h1, h2, A, cap, h3, h4, h5, h6⟩ => ⟨h1, h2, A, cap, h3, h4, h5, fun h0 => by
      obtain ⟨k, o, e, hf⟩ := h6 h0
      refine ⟨k, o, e, hf, fun hk => ?_⟩
      subst hk
      subst e
      obtain ⟨b', o', x, e, hx, hc⟩ := h5.at (k := 0) h0
      injection e with e
      injection e with e1 e2
      subst e1
      subst e2
      have h9 := hc.c0
      have h8 : W.cell? ⟨k, o + 0 * 4, none⟩ = (#[.slice none 0 0, .pointer none, .pointer none, Vi 0, Vi 0, Vi 0, Vq 0, Vq 0] : Array Value)[o + 0 * 4]? := by
        simp only [World.cell?, hq]
        rfl
      rw [h8] at h9
      generalize o + 0 * 4 = m at h9
      match m, h9 with
      | 0, h9 => simp at h9
      | 1, h9 => simp at h9
      | 2, h9 => simp at h9
      | 3, h9 => simp at h9
      | 4, h9 => simp at h9
      | 5, h9 => simp at h9
      | 6, h9 => simp at h9
      | 7, h9 => simp at h9
      | m + 8, h9 => simp at h9⟩
  | .node a b, c, lf, rt, hok, hv => by
      have hok : okR a ∧ okR b := by
        rcases hok with h | h
        · cases h
        · exact h
      obtain ⟨rfl, p, s, rfl, rfl, ⟨hp, ca, la, ra, xa, va⟩, hs, cb, lb, rb, xb, vb⟩ := hv
      have hz := cell_of_row W q 4 _ _ _ hq
      have hne : ∀ {p : Nat} {t : Tr} {c l r : Value} {hh ss lo hi : Int}, okR t → PtC W p c l r hh (cnt t) ss lo hi → p ≠ q := by
        intro p t c l r hh ss lo hi hok hx e
        subst e
        have h1 := hx.c4
        rw [hz] at h1
        have h2 := ok_pos hok
        simp at h1
        omega
      exact ⟨rfl, p, s, rfl, rfl, ⟨⟨hp, hne hok.1 xa⟩, ca, la, ra, xa, PV.avoid hq (.inr hok.1) va⟩, ⟨hs, hne hok.2 xb⟩, cb, lb, rb, xb, PV.avoid hq (.inr hok.2) vb⟩
theorem Ix.avoid {F : Nat → Prop} {W : World} {v : Value} {l : List En} {q : Nat} {T : TypeId} (h : Ix F W v l) (hq : W.heap[q]? = some (.cells #[.slice none 0 0, .pointer none, .pointer none, Vi 0, Vi 0, Vi 0, Vq 0, Vq 0] T (0, 0))) : Ix (fun b => F b ∧ b ≠ q) W v l := by
  obtain ⟨t, x, h1, h2, h3, h4, h5, h6, h7, h8, h9, h10⟩ := h
  exact ⟨t, x, h1, h2, h3, h4, h5, h6, h7, h8, h9.avoid hq h3, fun b hb => h10 b hb.1⟩
def KR (w a b : World) : Prop := (Ext w a → Ext w b) ∧ ∀ (F : Nat → Prop) (v : Value) (l : List En), Ix F a v l → ∃ F' : Nat → Prop, (∀ b, F' b → F b) ∧ Ix F' b v l
theorem KR.trans {w a b c : World} (h : KR w a b) (k : KR w b c) : KR w a c :=
  ⟨fun x => k.1 (h.1 x), fun F v l hI => by
    obtain ⟨F1, h1, hI1⟩ := h.2 F v l hI
    obtain ⟨F2, h2, hI2⟩ := k.2 F1 v l hI1
    exact ⟨F2, fun b hb => h1 b (h2 b hb), hI2⟩⟩
theorem KR.ext {w a b : World} (h : Ext a b) : KR w a b := ⟨fun x => x.trans h, fun F v l hI => ⟨F, fun _ hb => hb, hI.ext h⟩⟩

end Go.Proofs.Ytmpomammieenjaa
