/-
  Contract of addTo, by any tree; no claim stands here.
-/
import Derived.Test.YtanknhalgoheeaaYRd
import Derived.Test.YtanknhalgoheeaaSoft5
namespace Go.Proofs.Ytanknhalgoheeaa
open Go.ChangeShapes Go.WideShapes Go.ChangeAt Go.RowKit Go.Sort
set_option linter.unusedVariables false
attribute [local go_sem] World.cell?_alloc_some

/-- what lies below w0's top stays -/
def ARel (w0 : World) (a b : World) : Prop := Ext w0 a → Ext w0 b
/-- what the slots hold -/
def adTab (w0 : World) (b p q : Nat) (v : Value) (L : List En) : SoftTab := [(13, fun z9 W => z9 = .pointer (some ⟨b, 0, none⟩)),
  (14, fun z9 W => z9 = .pointer (some ⟨b, 0, none⟩)),
  (15, fun z9 W => z9 = .pointer (some ⟨b, 2, none⟩)),
  (16, fun z9 W => z9 = .pointer (some ⟨q, 0, none⟩)),
  (17, fun z9 W => z9 = .pointer (some ⟨b, 0, none⟩)),
  (18, fun z9 W => z9 = .pointer (some ⟨b, 0, none⟩)),
  (19, fun z9 W => z9 = .pointer (some ⟨b, 1, none⟩)),
  (20, fun z9 W => z9 = .pointer (some ⟨p, 0, none⟩)),
  (21, fun z9 W => z9 = v),
  (22, fun z9 W => OwnE w0 W z9 L)]
theorem adTab_mono (w0 : World) (b p q : Nat) (v : Value) (L : List En) : SoftMonoQ (ARel w0) 9 (adTab w0 b p q v L) := by
  constructor
  · intro k d R hk v' W W' h hx
    have hp := List.mem_of_getElem? hk
    simp only [adTab, List.mem_cons, Prod.mk.injEq, List.not_mem_nil, or_false] at hp
    rcases hp with ⟨_, rfl⟩ | ⟨_, rfl⟩ | ⟨_, rfl⟩ | ⟨_, rfl⟩ | ⟨_, rfl⟩ | ⟨_, rfl⟩ | ⟨_, rfl⟩ | ⟨_, rfl⟩ | ⟨_, rfl⟩ | ⟨_, rfl⟩
    all_goals first
      | exact h
      | exact OwnE.ext h hx
  · intro k d R hk hne v' W W' h hx
    have hk10 : k < 10 := (List.getElem?_eq_some_iff.1 hk).1
    have h9 : k = 0 ∨ k = 1 ∨ k = 2 ∨ k = 3 ∨ k = 4 ∨ k = 5 ∨ k = 6 ∨ k = 7 ∨ k = 8 := by omega
    rcases h9 with rfl | rfl | rfl | rfl | rfl | rfl | rfl | rfl | rfl
    all_goals
      simp only [adTab, List.getElem?_cons_succ, List.getElem?_cons_zero, Option.some.injEq, Prod.mk.injEq] at hk
      obtain ⟨_, rfl⟩ := hk
      exact h

set_option maxRecDepth 100000 in
set_option maxHeartbeats 16000000 in
theorem addTo_any {F : Nat → Prop} {w0 : World} : ∀ (t : Tr) (b : Nat) (w : World) (v : Value) (l0 : List En), AtP F w0 b t → Ext w0 w → OwnE w0 w v l0 → l0.length + cnt t ≤ 100000 →
    Calls Try.prog 31 #[Vp b, v] w fun e w' => ∃ v', e = .returned v' ∧ OwnE w0 w' v' (l0 ++ ents t) ∧ Ext w0 w' := by
  intro t
  induction t with
  | leaf l =>
    rintro b w v l0 ⟨_, ch, lf, rt, ⟨p0, p1, p2, p3, p4, p5, p6, p7⟩, rfl, rfl, A, cap, rfl, hcap, hE, _⟩ hx ho hb
    have hl := Lib.hid (leaf_any b w (hx.keep p1))
    have hE' := hE.ext hx
    have p0 := hx.keep p0
    have hb : l0.length + l.length ≤ 100000 := hb
    clear p1 p2 p3 p4 p5 p6 p7 hE
    go_enter Try.func31, Try.ntmps31
    go_wp2_with fail
    refine hl.out.mono ?_
    rintro e w1 ⟨rfl, rfl⟩
    go_wp2_with (at_builtin; refine wpList_append_E (w0 := w0) rfl (.tmp 7) (.tmp 11) rfl v l0 rfl ho hx A l.length cap l rfl rfl hE' hb ?_)
    intro v3 w3 o3 x3 _ _
    go_wp2
    go_ret
    exact ⟨v3, rfl, o3, x3⟩
  | node ta tb iha ihb =>
    rintro b w v l0 ⟨_, ch, lf, rt, ⟨p0, p1, p2, p3, p4, p5, p6, p7⟩, hPV⟩ hE0 ho hb
    obtain ⟨rfl, p, q, rfl, rfl, hA, hB⟩ := hPV.node
    rw [cnt_node] at hb
    have hl := Lib.hid (node_any b p w (hE0.keep p1))
    have hca := Lib.hid (fun W (hx : Ext w0 W) (h : OwnE w0 W v l0) => iha p W v l0 hA hx h (by omega))
    have hlen : (l0 ++ ents ta).length + cnt tb ≤ 100000 := by
      rw [List.length_append]
      unfold cnt at *
      omega
    have hcb := Lib.hid (fun W v' (hx : Ext w0 W) (h : OwnE w0 W v' (l0 ++ ents ta)) => ihb q W v' (l0 ++ ents ta) hB hx h hlen)
    have hR : ents (.node ta tb) = ents ta ++ ents tb := rfl
    rw [hR, ← List.append_assoc]
    generalize l0 ++ ents ta = L at *
    generalize L ++ ents tb = M at *
    clear p0 p3 p4 p5 p6 p7 iha ihb hA hB hPV hb hlen hR
    go_enter Try.func31, Try.ntmps31
    go_wp2_with fail
    refine hl.out.mono ?_
    rintro e w1 ⟨rfl, rfl⟩
    go_wp2_with fail
    refine wp_soft_frameQ (ARel w0) 9 (fun W => OwnE w0 W v l0) (fun _ => True) 10 (adTab w0 b p q v L) (by kernel_rfl) (by kernel_rfl) (fun _ _ _ h k hh => k (h hh)) (fun _ _ h hh => hh.trans h) (fun _ _ h hh => hh.ext h) (fun _ _ _ h => h) (by omega) ho rfl (by show List.Nodup [13, 14, 15, 16, 17, 18, 19, 20, 21, 22]; decide) (by show ∀ d ∈ [13, 14, 15, 16, 17, 18, 19, 20, 21, 22], d < 24; decide) (adTab_mono w0 b p q v L) ?_ ⟨?_, ?_, ?_, ?_, ?_, ?_, ?_, ?_, ?_, ?_, trivial⟩
    · intro W vs hT hR _
      match vs, hT with
      | [v0, v1, v2, v3, v4, v5, v6, v7, v8, v9], ⟨e0, e1, e2, e3, e4, e5, e6, e7, e8, e9, _⟩ =>
        simp only [adTab, List.map_cons, List.map_nil, List.zip_cons_cons, List.zip_nil_left, putAll, List.setIfInBounds_toArray, List.set_cons_zero, List.set_cons_succ, List.drop_succ_cons, List.drop_zero]
        simp only at e0 e1 e2 e3 e4 e5 e6 e7 e8
        have q9 : OwnE w0 W v9 L := e9
        rw [e0, e1, e2, e3, e4, e5, e6, e7, e8]
        clear e0 e1 e2 e3 e4 e5 e6 e7 e8 e9 v0 v1 v2 v3 v4 v5 v6 v7 v8
        have hE := hR hE0
        go_wp2_with fail
        refine (hcb.out _ _ hE q9).mono ?_
        rintro e w4 ⟨v4, rfl, o4, x4⟩
        go_wp2
        go_ret
        exact ⟨v4, rfl, o4, x4⟩
    · refine softP_val 13 _ (by kernel_rfl) rfl rfl ?_
      intro a W hx hout hdep
      have ev0 : a.tmps[0]?.getD undef = .pointer (some ⟨b, 0, none⟩) := by rw [← Array.getD_eq_getD_getElem?]; exact hout 0 (by show 0 ∉ [13, 14, 15, 16, 17, 18, 19, 20, 21, 22]; decide)
      refine ⟨rfl, .pointer (some ⟨b, 0, none⟩), W, ?_, rfl, Ext.refl _⟩
      simp [ev0, execOp, go_sem]
    · refine softP_val 14 _ (by kernel_rfl) rfl rfl ?_
      intro a W hx hout hdep
      have ev13 : a.tmps[13]?.getD undef = .pointer (some ⟨b, 0, none⟩) := by rw [← Array.getD_eq_getD_getElem?]; exact (hdep ⟨0, .data⟩ (by simp) rfl 13 _ rfl).1
      refine ⟨rfl, .pointer (some ⟨b, 0, none⟩), W, ?_, rfl, Ext.refl _⟩
      simp [ev13, execOp, go_sem]
    · refine softP_val 15 _ (by kernel_rfl) rfl rfl ?_
      intro a W hx hout hdep
      have ev14 : a.tmps[14]?.getD undef = .pointer (some ⟨b, 0, none⟩) := by rw [← Array.getD_eq_getD_getElem?]; exact (hdep ⟨1, .data⟩ (by simp) rfl 14 _ rfl).1
      refine ⟨rfl, .pointer (some ⟨b, 2, none⟩), W, ?_, rfl, Ext.refl _⟩
      simp [ev14, execOp, go_sem]
    · refine softP_val 16 _ (by kernel_rfl) rfl rfl ?_
      intro a W hx hout hdep
      have ev15 : a.tmps[15]?.getD undef = .pointer (some ⟨b, 2, none⟩) := by rw [← Array.getD_eq_getD_getElem?]; exact (hdep ⟨2, .data⟩ (by simp) rfl 15 _ rfl).1
      have hE := hx hE0
      have q0 := hE.keep p2
      refine ⟨rfl, .pointer (some ⟨q, 0, none⟩), W, ?_, rfl, Ext.refl _⟩
      simp [ev15, q0, execOp, go_sem]
    · refine softP_val 17 _ (by kernel_rfl) rfl rfl ?_
      intro a W hx hout hdep
      have ev0 : a.tmps[0]?.getD undef = .pointer (some ⟨b, 0, none⟩) := by rw [← Array.getD_eq_getD_getElem?]; exact hout 0 (by show 0 ∉ [13, 14, 15, 16, 17, 18, 19, 20, 21, 22]; decide)
      refine ⟨rfl, .pointer (some ⟨b, 0, none⟩), W, ?_, rfl, Ext.refl _⟩
      simp [ev0, execOp, go_sem]
    · refine softP_val 18 _ (by kernel_rfl) rfl rfl ?_
      intro a W hx hout hdep
      have ev17 : a.tmps[17]?.getD undef = .pointer (some ⟨b, 0, none⟩) := by rw [← Array.getD_eq_getD_getElem?]; exact (hdep ⟨4, .data⟩ (by simp) rfl 17 _ rfl).1
      refine ⟨rfl, .pointer (some ⟨b, 0, none⟩), W, ?_, rfl, Ext.refl _⟩
      simp [ev17, execOp, go_sem]
    · refine softP_val 19 _ (by kernel_rfl) rfl rfl ?_
      intro a W hx hout hdep
      have ev18 : a.tmps[18]?.getD undef = .pointer (some ⟨b, 0, none⟩) := by rw [← Array.getD_eq_getD_getElem?]; exact (hdep ⟨5, .data⟩ (by simp) rfl 18 _ rfl).1
      refine ⟨rfl, .pointer (some ⟨b, 1, none⟩), W, ?_, rfl, Ext.refl _⟩
      simp [ev18, execOp, go_sem]
    · refine softP_val 20 _ (by kernel_rfl) rfl rfl ?_
      intro a W hx hout hdep
      have ev19 : a.tmps[19]?.getD undef = .pointer (some ⟨b, 1, none⟩) := by rw [← Array.getD_eq_getD_getElem?]; exact (hdep ⟨6, .data⟩ (by simp) rfl 19 _ rfl).1
      have hE := hx hE0
      have q0 := hE.keep p1
      refine ⟨rfl, .pointer (some ⟨p, 0, none⟩), W, ?_, rfl, Ext.refl _⟩
      simp [ev19, q0, execOp, go_sem]
    · refine softP_val 21 _ (by kernel_rfl) rfl rfl ?_
      intro a W hx hout hdep
      have ev1 : a.tmps[1]?.getD undef = v := by rw [← Array.getD_eq_getD_getElem?]; exact hout 1 (by show 1 ∉ [13, 14, 15, 16, 17, 18, 19, 20, 21, 22]; decide)
      refine ⟨rfl, v, W, ?_, rfl, Ext.refl _⟩
      simp [ev1, execOp, go_sem]
    · refine softC_call 22 _ (by kernel_rfl) rfl rfl ?_
      intro a W hx hpre hout hdep
      have ev20 : a.tmps[20]?.getD undef = .pointer (some ⟨p, 0, none⟩) := by rw [← Array.getD_eq_getD_getElem?]; exact (hdep ⟨7, .data⟩ (by simp) rfl 20 _ rfl).1
      have ev21 : a.tmps[21]?.getD undef = v := by rw [← Array.getD_eq_getD_getElem?]; exact (hdep ⟨8, .data⟩ (by simp) rfl 21 _ rfl).1
      refine ⟨rfl, 31, #[.pointer (some ⟨p, 0, none⟩), v], ?_, ?_⟩
      · simp [ev20, ev21, execOp, go_sem]
      · exact (hca.out W (hx hE0) hpre).mono (by rintro e W1 ⟨v1, rfl, h1, h2⟩; exact ⟨v1, rfl, h1, fun _ => h2, trivial⟩)

end Go.Proofs.Ytanknhalgoheeaa
