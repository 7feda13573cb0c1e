/-
  ListOrders' walk, its first part: the first list; no claim stands here.
-/
import Derived.Deep.RegionWith
import Derived.Test.YtmpomammieenjaaOI2
namespace Go.Proofs.Ytmpomammieenjaa
open Go.ChangeShapes Go.WideShapes Go.ChangeAt Go.RowKit Go.Sort
set_option linter.unusedVariables false
set_option linter.unusedSimpArgs false
attribute [local go_sem] World.cell?_alloc_some

def IxA (E : List En) (vi : Value) (W : World) : Prop := ∀ W1, Ext W W1 → Calls Try.prog 24 #[vi] W1 fun e w2 => ∃ A c, e = .returned (.slice A E.length c) ∧ EnS w2 A E ∧ Ext W1 w2
theorem IxA.ext {E : List En} {vi : Value} {W W' : World} (h : IxA E vi W) (hx : Ext W W') : IxA E vi W' := fun W1 h1 => h W1 (hx.trans h1)
def EnV (E : List En) (q : Value) (W : World) : Prop := ∃ A c, q = .slice A E.length c ∧ EnS W A E
theorem EnV.ext {E : List En} {q : Value} {W W' : World} (h : EnV E q W) (hx : Ext W W') : EnV E q W' := by
  obtain ⟨A, c, h1, h2⟩ := h
  exact ⟨A, c, h1, h2.ext hx⟩
def lor9 (Ls : (Nat → Prop) → World → Value → List It → List I2 → Prop) (F : Nat → Prop) (s p4 bk ok k cm i : Nat) (xv : Lv) (x : It) (L2 : List It) (G2 : List I2) : SoftTab := [(58, fun z9 W => z9 = lsv xv),
  (59, fun z9 W => z9 = .slice (some ⟨bk, ok, none⟩) k cm),
  (60, fun z9 W => z9 = Vi (i : Int)),
  (61, fun z9 W => z9 = .pointer (some ⟨bk, ok + i * 7, none⟩)),
  (62, fun z9 W => z9 = itv x),
  (63, fun z9 W => ∃ yv, z9 = .tuple #[lsv yv, .nilIface] ∧ NewV Ls F s L2 G2 W yv),
  (57, fun z9 W => ∃ yv, z9 = .tuple #[lsv yv, .nilIface] ∧ NewV Ls F s L2 G2 W yv),
  (64, fun z9 W => ∃ yv, z9 = lsv yv ∧ NewV Ls F s L2 G2 W yv),
  (65, fun z9 W => z9 = .nilIface),
  (11, fun z9 W => ∃ q, z9 = .pointer (some ⟨q, 0, none⟩) ∧ (s ≤ q ∧ BxL W q zLv)),
  (12, fun z9 W => True)]
theorem lor9_mono {Ls : (Nat → Prop) → World → Value → List It → List I2 → Prop} (M : LsW Ls) (F : Nat → Prop) (s p4 bk ok k cm i : Nat) (xv : Lv) (x : It) (L2 : List It) (G2 : List I2) (wq : World) : SoftMonoV (KL Ls wq) 9 (lor9 Ls F s p4 bk ok k cm i xv x L2 G2) := by
  constructor
  · intro k d R hk v' W W' h hx
    have hp := List.mem_of_getElem? hk
    simp only [lor9, List.mem_cons, Prod.mk.injEq, List.not_mem_nil, or_false] at hp
    rcases hp with ⟨_, rfl⟩ | ⟨_, rfl⟩ | ⟨_, rfl⟩ | ⟨_, rfl⟩ | ⟨_, rfl⟩ | ⟨_, rfl⟩ | ⟨_, rfl⟩ | ⟨_, rfl⟩ | ⟨_, rfl⟩ | ⟨_, rfl⟩ | ⟨_, rfl⟩
    all_goals first
      | exact h
      | (obtain ⟨yv, h1, h2⟩ := h
         exact ⟨yv, h1, h2.ext M hx⟩)
      | (obtain ⟨q, h1, h2, h3⟩ := h
         exact ⟨q, h1, h2, h3.ext hx⟩)
  · intro k d R hk hne v' W W' h hx
    have hkn : k < 11 := (List.getElem?_eq_some_iff.1 hk).1
    have h9 : k = 0 ∨ k = 1 ∨ k = 2 ∨ k = 3 ∨ k = 4 ∨ k = 5 ∨ k = 6 ∨ k = 7 ∨ k = 8 ∨ k = 10 := by omega
    rcases h9 with rfl | rfl | rfl | rfl | rfl | rfl | rfl | rfl | rfl | rfl
    all_goals
      simp only [lor9, List.getElem?_cons_succ, List.getElem?_cons_zero, Option.some.injEq, Prod.mk.injEq] at hk
      obtain ⟨_, rfl⟩ := hk
      first
        | exact h
        | (obtain ⟨yv, h1, h2⟩ := h
           exact ⟨yv, h1, h2.kl hx⟩)

def lor16 (Ls : (Nat → Prop) → World → Value → List It → List I2 → Prop) (F : Nat → Prop) (s p4 bk ok k cm bp op ng cg j r : Nat) (zg : Int) (xv : Lv) (x : It) (L2 : List It) (G2 : List I2) : SoftTab := [(76, fun z9 W => z9 = lsv xv),
  (77, fun z9 W => z9 = .slice (some ⟨bk, ok, none⟩) k cm),
  (78, fun z9 W => z9 = .slice (some ⟨bp, op, none⟩) ng cg),
  (79, fun z9 W => z9 = Vi (j : Int)),
  (80, fun z9 W => z9 = .pointer (some ⟨bp, op + j, none⟩)),
  (81, fun z9 W => z9 = Vi zg),
  (82, fun z9 W => z9 = .slice (some ⟨bk, ok, none⟩) k cm),
  (83, fun z9 W => z9 = Vi (k : Int)),
  (84, fun z9 W => z9 = Vi (r : Int)),
  (85, fun z9 W => z9 = .pointer (some ⟨bk, ok + r * 7, none⟩)),
  (86, fun z9 W => z9 = .pointer (some ⟨bk, ok + r * 7, none⟩)),
  (87, fun z9 W => z9 = idv x.c x.k),
  (88, fun z9 W => ∃ yv, z9 = .tuple #[lsv yv, .nilIface] ∧ NewV Ls F s L2 G2 W yv),
  (75, fun z9 W => ∃ yv, z9 = .tuple #[lsv yv, .nilIface] ∧ NewV Ls F s L2 G2 W yv),
  (89, fun z9 W => ∃ yv, z9 = lsv yv ∧ NewV Ls F s L2 G2 W yv),
  (90, fun z9 W => z9 = .nilIface),
  (14, fun z9 W => ∃ q, z9 = .pointer (some ⟨q, 0, none⟩) ∧ (s ≤ q ∧ BxL W q zLv)),
  (15, fun z9 W => True)]
theorem lor16_mono {Ls : (Nat → Prop) → World → Value → List It → List I2 → Prop} (M : LsW Ls) (F : Nat → Prop) (s p4 bk ok k cm bp op ng cg j r : Nat) (zg : Int) (xv : Lv) (x : It) (L2 : List It) (G2 : List I2) (wq : World) : SoftMonoV (KL Ls wq) 16 (lor16 Ls F s p4 bk ok k cm bp op ng cg j r zg xv x L2 G2) := by
  constructor
  · intro k d R hk v' W W' h hx
    have hp := List.mem_of_getElem? hk
    simp only [lor16, List.mem_cons, Prod.mk.injEq, List.not_mem_nil, or_false] at hp
    rcases hp with ⟨_, rfl⟩ | ⟨_, rfl⟩ | ⟨_, rfl⟩ | ⟨_, rfl⟩ | ⟨_, rfl⟩ | ⟨_, rfl⟩ | ⟨_, rfl⟩ | ⟨_, rfl⟩ | ⟨_, rfl⟩ | ⟨_, rfl⟩ | ⟨_, rfl⟩ | ⟨_, rfl⟩ | ⟨_, rfl⟩ | ⟨_, rfl⟩ | ⟨_, rfl⟩ | ⟨_, rfl⟩ | ⟨_, rfl⟩ | ⟨_, rfl⟩
    all_goals first
      | exact h
      | (obtain ⟨yv, h1, h2⟩ := h
         exact ⟨yv, h1, h2.ext M hx⟩)
      | (obtain ⟨q, h1, h2, h3⟩ := h
         exact ⟨q, h1, h2, h3.ext hx⟩)
  · intro k d R hk hne v' W W' h hx
    have hkn : k < 18 := (List.getElem?_eq_some_iff.1 hk).1
    have h9 : k = 0 ∨ k = 1 ∨ k = 2 ∨ k = 3 ∨ k = 4 ∨ k = 5 ∨ k = 6 ∨ k = 7 ∨ k = 8 ∨ k = 9 ∨ k = 10 ∨ k = 11 ∨ k = 12 ∨ k = 13 ∨ k = 14 ∨ k = 15 ∨ k = 17 := by omega
    rcases h9 with rfl | rfl | rfl | rfl | rfl | rfl | rfl | rfl | rfl | rfl | rfl | rfl | rfl | rfl | rfl | rfl | rfl
    all_goals
      simp only [lor16, List.getElem?_cons_succ, List.getElem?_cons_zero, Option.some.injEq, Prod.mk.injEq] at hk
      obtain ⟨_, rfl⟩ := hk
      first
        | exact h
        | (obtain ⟨yv, h1, h2⟩ := h
           exact ⟨yv, h1, h2.kl hx⟩)

def lor43 (br ort rl cr t : Nat) (rest : List It) (s0 : World) : SoftTab := [(166, fun z9 W => ∃ q, z9 = .slice (some ⟨q, 0, none⟩) 0 0 ∧ s0.heap.size ≤ q ∧ W.heap[q]? = some (.cells #[] 43 (0, 0))),
  (167, fun z9 W => z9 = .slice (some ⟨br, ort, none⟩) rl cr),
  (168, fun z9 W => z9 = Vi (t : Int)),
  (169, fun z9 W => z9 = .slice (some ⟨br, ort, none⟩) t cr),
  (170, fun z9 W => ∃ q : Value, z9 = q ∧ OwnI s0 W q (rest.take t)),
  (171, fun z9 W => z9 = .slice (some ⟨br, ort, none⟩) rl cr),
  (172, fun z9 W => z9 = Vi (t : Int)),
  (173, fun z9 W => z9 = Vi ((t : Int) + 1)),
  (174, fun z9 W => z9 = .slice (cutA (some ⟨br, ort, none⟩) cr (t + 1) 7) (rl - (t + 1)) (cr - (t + 1)))]
theorem lor43_mono (br ort rl cr t : Nat) (rest : List It) (s0 : World) (Rel : World → World → Prop) (hR : ∀ W W', Rel W W' → Ext W W') : SoftMonoR Rel (lor43 br ort rl cr t rest s0) := by
  intro p hp v W W' h hx
  simp only [lor43, List.mem_cons, List.not_mem_nil, or_false] at hp
  rcases hp with rfl | rfl | rfl | rfl | rfl | rfl | rfl | rfl | rfl
  all_goals first
    | exact h
    | (obtain ⟨q, h1, h2, h3⟩ := h
       exact ⟨q, h1, h2, by rw [RowKit.Below.block (hR _ _ hx) q (Array.getElem?_eq_some_iff.1 h3).1]; exact h3⟩)
    | (obtain ⟨q, h1, h2⟩ := h
       exact ⟨q, h1, h2.ext (hR _ _ hx)⟩)

def lor46 (xv zv : Lv) (E : List En) : SoftTab := [(178, fun z9 W => z9 = lsv xv),
  (179, fun z9 W => ∃ vi : Value, z9 = vi ∧ IxA E vi W),
  (180, fun z9 W => ∃ q : Value, z9 = q ∧ EnV E q W),
  (181, fun z9 W => z9 = lsv zv),
  (182, fun z9 W => ∃ vi : Value, z9 = vi ∧ IxA E vi W),
  (183, fun z9 W => ∃ q : Value, z9 = q ∧ EnV E q W),
  (184, fun z9 W => z9 = .bool true)]
theorem lor46_mono (xv zv : Lv) (E : List En) (Rel : World → World → Prop) (hR : ∀ W W', Rel W W' → Ext W W') : SoftMonoR Rel (lor46 xv zv E) := by
  intro p hp v W W' h hx
  simp only [lor46, List.mem_cons, List.not_mem_nil, or_false] at hp
  rcases hp with rfl | rfl | rfl | rfl | rfl | rfl | rfl
  all_goals first
    | exact h
    | exact (by obtain ⟨q, h1, h2⟩ := h; exact ⟨q, h1, h2.ext (hR _ _ hx)⟩)

set_option maxRecDepth 100000 in
set_option maxHeartbeats 64000000 in
theorem listOrders_walk {Ls : (Nat → Prop) → World → Value → List It → List I2 → Prop} (M : LsW Ls) (A Ap Ag : Option Addr) (n cap np cp ng cg : Nat) (l : List It) (picks gone : List Int) (w : World) (hv : ItS w A l) (hn : l.length = n) (hnb : n ≤ 5026338869800) (hwl : ∀ x ∈ l, wfI x) (hp : ZsR w Ap picks) (hpn : picks.length = np) (hg : ZsR w Ag gone) (hgn : gone.length = ng) :
    Calls Try.prog 5 #[.slice A n cap, .slice Ap np cp, .slice Ag ng cg] w fun e w' => e = .returned (.bool true) ∧ Ext w w' := by
  have hup := Lib.hid (up9_any M w)
  have hc2 := Lib.hid (fun (W : World) (hW : Ext w W) => knownL_any A n cap l W (hv.ext hW) hn hnb)
  have hKn : (knL l).length ≤ n := hn ▸ knL_len l
  have hkm := Lib.hid (knL_known l)
  have hkc := Lib.hid (fun x (hx : x ∈ knL l) => (knL_mem l x hx).2)
  have hkw := Lib.hid (fun x (hx : x ∈ knL l) => hwl x (knL_mem l x hx).1)
  replace hp := Lib.hid hp
  replace hpn := Lib.hid hpn
  replace hg := Lib.hid hg
  replace hgn := Lib.hid hgn
  clear hn hv hwl
  generalize knL l = K at *
  go_enter Try.func5, Try.ntmps5
  go_wp2_with fail
  refine hup.out.mono ?_
  rintro e w0 ⟨rfl, x0⟩
  go_wp2_with fail
  refine (hc2.out _ x0).mono ?_
  rintro e w2 ⟨v2, rfl, o2, x2⟩
  obtain ⟨Am, cm, rfl, hkcp, hM2⟩ := o2.open
  obtain ⟨k, hk⟩ : ∃ k, K.length = k := ⟨_, rfl⟩
  rw [hk] at hkcp hKn ⊢
  have xw2 := x0.trans x2
  replace hk := Lib.hid hk
  clear o2 hc2 x2 x0
  by_cases h30 : 30 < k
  · go_wp2
    go_ret
    exact ⟨rfl, xw2⟩
  by_cases h31 : 30 < ng
  · go_wp2
    go_ret
    exact ⟨rfl, xw2⟩
  by_cases h32 : k = 0
  · have h32' : ((k : Int) == 0) = true := by simp; omega
    go_wp2
    go_ret
    exact ⟨rfl, xw2⟩
  have h32' : ((k : Int) == 0) = false := by simp; omega
  have hk0 : 0 < k := by omega
  have hg2 := Lib.hid (hg.out.ext xw2)
  have hp2 := Lib.hid (hp.out.ext xw2)
  replace hM2 := Lib.hid hM2
  have bz : BL Ls w2.heap.size [] [] (fun _ => False) zLv (w2.alloc (.cells #[.slice none 0 0, .pointer none, .pointer none, Vi 0, Vi 0, Vi 0, Vq 0, Vq 0, .pointer none] 33)) := ⟨BxL.new w2 zLv, M.zero _, fun b hb => hb.elim⟩
  have xa : Ext w2 (w2.alloc (.cells #[.slice none 0 0, .pointer none, .pointer none, Vi 0, Vi 0, Vi 0, Vq 0, Vq 0, .pointer none] 33)) := (Ext.refl _).alloc _
  clear hup hp hg
  go_wp2_with fail
  generalize w2.alloc (.cells #[.slice none 0 0, .pointer none, .pointer none, Vi 0, Vi 0, Vi 0, Vq 0, Vq 0, .pointer none] 33) = wb at *
  obtain ⟨p4, hp4⟩ : ∃ p, w2.heap.size = p := ⟨_, rfl⟩
  rw [hp4] at bz ⊢
  have hl4 : w2.heap.size ≤ p4 := by omega
  clear hp4
  replace bz := Lib.hid bz
  go_loopw [10] (fun i W => ∃ (i' : Nat) (F : Nat → Prop) (xv : Lv), i = Vi i' ∧ i' ≤ k ∧ Hid (BL Ls p4 (K.take i') [] F xv W) ∧ Hid (Ext w2 W)) (fun i _ => k - (intOf i).toNat)
  case atStart => exact ⟨0, _, zLv, rfl, Nat.zero_le _, bz, Lib.hid xa⟩
  case round =>
    clear bz
    obtain ⟨i, F, xv, rfl, hi, hb, he⟩ := hrel
    by_cases hlt : i < k
    · have hi1 : (0 : Int) ≤ (i : Int) := by omega
      have hi2 : (i : Int) < (k : Int) := by omega
      obtain ⟨bk, ok, x, rfl, hxi, dc⟩ := (hM2.out.ext he.out).at (k := i) (by rw [hk.out]; exact hlt)
      have hca := Lib.hid (canI_at hkm.out hxi (hkc.out x (List.mem_of_getElem? hxi)))
      have hwx := Lib.hid (hkw.out x (List.mem_of_getElem? hxi))
      have hts := Lib.hid (take_snoc hxi)
      have hlen : Hid ((K.take i).length = i) := Lib.hid (by rw [List.length_take, hk.out]; omega)
      have hadd := Lib.hid (fun W (hW : Ext wr W) => M.add F W (lsv xv) (K.take i) [] x false (M.ext hb.out.x hW) (by rw [hlen.out]; omega) (by simp) hwx.out hca.out)
      obtain ⟨c0, c1, c2, c3, c4, c5, c6⟩ := dc
      obtain ⟨a0, a1, a2, a3, a4, a5, a6, a7, a8⟩ := hb.out.b.cells
      have hFl := fun b hb9 => M.lt hb.out.x (b := b) hb9
      have xA : Ext wr (wr.alloc (.cells #[.slice none 0 0, .pointer none, .pointer none, Vi 0, Vi 0, Vi 0, Vq 0, Vq 0, .pointer none] 33)).drew := ((Ext.refl _).alloc _).drew
      have xB : Ext wr wr.drew := (Ext.refl _).drew
      clear hxi
      go_wp2_with fail
      go_cut [11, 12] (fun s e wx => NewL Ls F wr (K.take i ++ [x]) [] s e wx)
      case first =>
        have hs8 := Lib.hid (Nat.le_refl wr.heap.size)
        have hs9 := hs8
        refine wp_soft_frameV (KL Ls wr) 10 9 11 _ (fun _ => True) (NewPL Ls F wr.heap.size (K.take i ++ [x]) ([])) 11 (lor9 Ls F wr.heap.size p4 bk ok k cm i xv x (K.take i ++ [x]) []) (by kernel_rfl) (by kernel_rfl) (fun _ _ _ => KL.trans) (fun _ _ => KL.ext M) (fun _ _ _ h => h) (fun _ _ _ h => (fun x => NewPL.ext M x h)) (by omega) trivial rfl (by show List.Nodup [58, 59, 60, 61, 62, 63, 57, 64, 65, 11, 12]; decide) (by show ∀ d ∈ [58, 59, 60, 61, 62, 63, 57, 64, 65, 11, 12], d < 196; decide) rfl (by kernel_rfl) (lor9_mono M F wr.heap.size p4 bk ok k cm i xv x (K.take i ++ [x]) [] wr) ?_ ⟨?_, ?_, ?_, ?_, ?_, ?_, ?_, ?_, ?_, ?_, ?_, trivial⟩
        · intro W f hT hR hPost
          have t0 := hT 0 58 _ rfl (by decide)
          have t1 := hT 1 59 _ rfl (by decide)
          have t2 := hT 2 60 _ rfl (by decide)
          have t3 := hT 3 61 _ rfl (by decide)
          have t4 := hT 4 62 _ rfl (by decide)
          have t5 := hT 5 63 _ rfl (by decide)
          have t6 := hT 6 57 _ rfl (by decide)
          have t7 := hT 7 64 _ rfl (by decide)
          have t8 := hT 8 65 _ rfl (by decide)
          simp only [lor9, List.map_cons, List.map_nil, putAll, List.setIfInBounds_toArray, List.set_cons_zero, List.set_cons_succ, List.drop_succ_cons, List.drop_zero]
          try simp only at t0 t1 t2 t3 t4 t8
          obtain ⟨y5, t5, _⟩ := t5
          obtain ⟨y6, t6, _⟩ := t6
          obtain ⟨y7, t7, _⟩ := t7
          obtain ⟨p9, yv, F1, eq, hp9, hy9, hI9, hF9, hN9⟩ := hPost
          rw [t0, t1, t2, t3, t4, t8, t5, t6, t7, eq]
          clear t0 t1 t2 t3 t4 t8 t5 t6 t7 eq hT
          have hXR := hR.1 (Ext.refl _)
          go_wp2_with fail
          go_meet
          exact ⟨p9, yv, F1, rfl, rfl, hy9, hI9, hF9, hN9, hp9, hXR⟩
        · refine softV_val 58 _ (by kernel_rfl) rfl rfl ?_
          intro a9 W hx hpre hout hdep
          have ev9 : a9.tmps[9]?.getD undef = .pointer (some ⟨p4, 0, none⟩) := by rw [← Array.getD_eq_getD_getElem?]; exact hout 9 (by show 9 ∉ [58, 59, 60, 61, 62, 63, 57, 64, 65, 11, 12]; decide)
          have hE := hx.1 (Ext.refl _)
          have q0 := hE.keep a0
          have q1 := hE.keep a1
          have q2 := hE.keep a2
          have q3 := hE.keep a3
          have q4 := hE.keep a4
          have q5 := hE.keep a5
          have q6 := hE.keep a6
          have q7 := hE.keep a7
          have q8 := hE.keep a8
          refine ⟨rfl, lsv xv, W, ?_, rfl, Ext.refl _⟩
          simp [ev9, q0, q1, q2, q3, q4, q5, q6, q7, q8, execOp, go_sem]
        · refine softV_val 59 _ (by kernel_rfl) rfl rfl ?_
          intro a9 W hx hpre hout hdep
          have ev8 : a9.tmps[8]?.getD undef = .slice (some ⟨bk, ok, none⟩) k cm := by rw [← Array.getD_eq_getD_getElem?]; exact hout 8 (by show 8 ∉ [58, 59, 60, 61, 62, 63, 57, 64, 65, 11, 12]; decide)
          refine ⟨rfl, .slice (some ⟨bk, ok, none⟩) k cm, W, ?_, rfl, Ext.refl _⟩
          simp [ev8, execOp, go_sem]
        · refine softV_val 60 _ (by kernel_rfl) rfl rfl ?_
          intro a9 W hx hpre hout hdep
          have ev10 : a9.tmps[10]?.getD undef = Vi (i : Int) := by rw [← Array.getD_eq_getD_getElem?]; exact hout 10 (by show 10 ∉ [58, 59, 60, 61, 62, 63, 57, 64, 65, 11, 12]; decide)
          refine ⟨rfl, Vi (i : Int), W, ?_, rfl, Ext.refl _⟩
          simp [ev10, execOp, go_sem]
        · refine softV_val 61 _ (by kernel_rfl) rfl rfl ?_
          intro a9 W hx hpre hout hdep
          have ev59 : a9.tmps[59]?.getD undef = .slice (some ⟨bk, ok, none⟩) k cm := by rw [← Array.getD_eq_getD_getElem?]; exact (hdep ⟨1, .data⟩ (by simp) rfl 59 _ rfl (.inl (by simp))).1
          have ev60 : a9.tmps[60]?.getD undef = Vi (i : Int) := by rw [← Array.getD_eq_getD_getElem?]; exact (hdep ⟨2, .data⟩ (by simp) rfl 60 _ rfl (.inl (by simp))).1
          refine ⟨rfl, .pointer (some ⟨bk, ok + i * 7, none⟩), W, ?_, rfl, Ext.refl _⟩
          simp [ev59, ev60, hi1, hi2, execOp, go_sem]
        · refine softV_val 62 _ (by kernel_rfl) rfl rfl ?_
          intro a9 W hx hpre hout hdep
          have ev61 : a9.tmps[61]?.getD undef = .pointer (some ⟨bk, ok + i * 7, none⟩) := by rw [← Array.getD_eq_getD_getElem?]; exact (hdep ⟨3, .data⟩ (by simp) rfl 61 _ rfl (.inl (by simp))).1
          have hE := hx.1 (Ext.refl _)
          have q0 := hE.keep c0
          have q1 := hE.keep c1
          have q2 := hE.keep c2
          have q3 := hE.keep c3
          have q4 := hE.keep c4
          have q5 := hE.keep c5
          have q6 := hE.keep c6
          refine ⟨rfl, itv x, W, ?_, rfl, Ext.refl _⟩
          simp [ev61, q0, q1, q2, q3, q4, q5, q6, execOp, go_sem]
        · refine softV_call 63 _ (by kernel_rfl) rfl rfl ?_
          intro a9 W hx hpre hout hdep
          have ev58 : a9.tmps[58]?.getD undef = lsv xv := by rw [← Array.getD_eq_getD_getElem?]; exact (hdep ⟨0, .data⟩ (by simp) rfl 58 _ rfl (.inl (by simp))).1
          have ev62 : a9.tmps[62]?.getD undef = itv x := by rw [← Array.getD_eq_getD_getElem?]; exact (hdep ⟨4, .data⟩ (by simp) rfl 62 _ rfl (.inl (by simp))).1
          refine ⟨rfl, 11, #[lsv xv, itv x, .bool false], ?_, ?_⟩
          · simp [ev58, ev62, execOp, go_sem]
          · exact (hadd.out W (hx.1 (Ext.refl _))).mono (by rintro e W1 ⟨F1, v1, rfl, h1, h2, h3⟩; obtain ⟨yv, rfl⟩ := M.shape h1; exact ⟨_, rfl, ⟨yv, rfl, F1, h1, fun b9 hb => (h2 b9 hb).imp id (fun h => Nat.le_trans (hx.1 (Ext.refl _)).size h)⟩, h3⟩)
        · refine softV_val 57 _ (by kernel_rfl) rfl rfl ?_
          intro a9 W hx hpre hout hdep
          have tl63 := (hdep ⟨5, .data⟩ (by simp) rfl 63 _ rfl (.inl (by simp))).1
          obtain ⟨yv, eyv, hI9⟩ := tl63
          rw [Array.getD_eq_getD_getElem?] at eyv
          refine ⟨rfl, .tuple #[lsv yv, .nilIface], W, ?_, ⟨yv, rfl, hI9⟩, Ext.refl _⟩
          simp [eyv, execOp, go_sem]
        · refine softV_val 64 _ (by kernel_rfl) rfl rfl ?_
          intro a9 W hx hpre hout hdep
          have tl57 := (hdep ⟨6, .data⟩ (by simp) rfl 57 _ rfl (.inl (by simp))).1
          obtain ⟨yv, eyv, hI9⟩ := tl57
          rw [Array.getD_eq_getD_getElem?] at eyv
          refine ⟨rfl, lsv yv, W, ?_, ⟨yv, rfl, hI9⟩, Ext.refl _⟩
          simp [eyv, execOp, go_sem]
        · refine softV_val 65 _ (by kernel_rfl) rfl rfl ?_
          intro a9 W hx hpre hout hdep
          have tl57 := (hdep ⟨6, .data⟩ (by simp) rfl 57 _ rfl (.inl (by simp))).1
          obtain ⟨yv, eyv, hI9⟩ := tl57
          rw [Array.getD_eq_getD_getElem?] at eyv
          refine ⟨rfl, .nilIface, W, ?_, rfl, Ext.refl _⟩
          simp [eyv, execOp, go_sem]
        · refine softV_val 11 _ (by kernel_rfl) rfl rfl ?_
          intro a9 W hx hpre hout hdep
          refine ⟨rfl, .pointer (some ⟨W.heap.size, 0, none⟩), W.alloc (.cells #[.slice none 0 0, .pointer none, .pointer none, Vi 0, Vi 0, Vi 0, Vq 0, Vq 0, .pointer none] 33), ?_, ⟨_, rfl, Nat.le_trans hs9.out (hx.1 (Ext.refl _)).size, BxL.new W zLv⟩, (Ext.refl W).alloc _⟩
          simp [execOp, go_sem]
        · rw [if_pos (by rfl)]
          refine softD_none 12 (by kernel_rfl) rfl rfl ?_
          intro a9 W hx hpre hout hdep
          have tl11 := (hdep ⟨9, .data⟩ (by simp) rfl 11 _ rfl).1
          have tl64 := (hdep ⟨7, .data⟩ (by simp) rfl 64 _ rfl).1
          obtain ⟨qb, eqb, hqb, hzb⟩ := tl11
          obtain ⟨yv, eyv, hI2⟩ := tl64
          have eqb0 := eqb
          rw [Array.getD_eq_getD_getElem?] at eqb eyv
          obtain ⟨kc0, kc1, kc2, kc3, kc4, kc5, kc6, kc7, kc8⟩ := hzb.cells
          have fc0 := hzb.thaw 0
          have fc1 := hzb.thaw 1
          have fc2 := hzb.thaw 2
          have fc3 := hzb.thaw 3
          have fc4 := hzb.thaw 4
          have fc5 := hzb.thaw 5
          have fc6 := hzb.thaw 6
          have fc7 := hzb.thaw 7
          have fc8 := hzb.thaw 8
          have hpn := putL_new M (w := wr) hs8.out hqb hzb hI2
          rw [← eqb0] at hpn
          refine ⟨rfl, putL W qb yv, ?_, hpn.1, hpn.2⟩
          simp [eqb, eyv, kc0, fc0, kc1, fc1, kc2, fc2, kc3, fc3, kc4, fc4, kc5, fc5, kc6, fc6, kc7, fc7, kc8, fc8, execOp, go_sem]
      case rest =>
        obtain ⟨p, yv, F1, rfl, rfl, by', hy, hF1, hFp, hlp, xc⟩ := hcut
        rw [hts.out] at hy
        have b4c := hb.out.b.ext xc
        have f0 := b4c.thaw 0
        have f1 := b4c.thaw 1
        have f2 := b4c.thaw 2
        have f3 := b4c.thaw 3
        have f4 := b4c.thaw 4
        have f5 := b4c.thaw 5
        have f6 := b4c.thaw 6
        have f7 := b4c.thaw 7
        have f8 := b4c.thaw 8
        obtain ⟨g0, g1, g2, g3, g4, g5, g6, g7, g8⟩ := b4c.cells
        obtain ⟨k0, k1, k2, k3, k4, k5, k6, k7, k8⟩ := by'.cells
        have hfin := Lib.hid (show BL Ls p4 (K.take (i + 1)) [] F1 yv (putL wc p4 yv) from hb.out.put M xc hy hF1)
        have hfe := Lib.hid (RX.down (he.out.trans xc) hl4 (putL_rx wc p4 yv))
        clear c0 c1 c2 c3 c4 c5 c6
        clear a0 a1 a2 a3 a4 a5 a6 a7 a8
        clear xA xB b4c by' hy hF1 hFp xc hb he
        go_wp2_with fail
        go_roundw
        case rel => exact ⟨i + 1, F1, yv, by go_num, by omega, hfin, hfe⟩
        case measure => simp [intOf]; omega
    · have hik : i = k := by omega
      rw [show K.take i = K by rw [hik, ← hk.out]; exact List.take_length] at hb
      go_wp2_with fail
      go_loopw [13] (fun j W => ∃ (j' : Nat) (F : Nat → Prop) (xv : Lv), j = Vi j' ∧ j' ≤ ng ∧ Hid (BL Ls p4 K (gsI K (gone.take j')) F xv W) ∧ Hid (Ext w2 W)) (fun j _ => ng - (intOf j).toNat)
      case atStart => exact ⟨0, F, xv, rfl, Nat.zero_le _, hb, he⟩
      case round =>
        clear hb he
        obtain ⟨j, F, xv, rfl, hj, hb, he⟩ := hrel
        by_cases hjl : j < ng
        · obtain ⟨zg, hzg⟩ : ∃ z, gone[j]? = some z := ⟨_, List.getElem?_eq_getElem (by rw [hgn.out]; exact hjl)⟩
          obtain ⟨bp, op, rfl, hcp⟩ := (hg2.out.ext he.out).at hzg
          obtain ⟨x, hxi, hgx⟩ := gI_at (K := K) (z := zg) (by rw [hk.out]; exact hk0)
          rw [hk.out] at hxi
          have hrk : pkN zg k < k := pkN_lt hk0
          obtain ⟨bk, ok, x', rfl, hxi', dc⟩ := (hM2.out.ext he.out).at (k := pkN zg k) (by rw [hk.out]; exact hrk)
          rw [hxi] at hxi'
          injection hxi' with hxi'
          subst hxi'
          have hgs := Lib.hid (gsI_step (K := K) hzg)
          rw [hgx] at hgs
          have hwx := Lib.hid (hkw.out x (List.mem_of_getElem? hxi))
          have hhx : Hid (hasI K (x.c, x.k) = true) := Lib.hid (has_iffI.2 ⟨x, List.mem_of_getElem? hxi, rfl⟩)
          have hgl : Hid ((gsI K (gone.take j)).length ≤ 100) := Lib.hid (by unfold gsI; rw [List.length_map, List.length_take]; omega)
          have hpk : ∀ W, Calls Try.prog 8 #[Vi zg, Vi (k : Int)] W fun e w' => e = .returned (Vi ((pkN zg k : Nat) : Int)) ∧ W = w' := fun W => pick9_any zg k W hk0 (by omega)
          have hadd := Lib.hid (fun W (hW : Ext wr W) => M.del F W (lsv xv) K (gsI K (gone.take j)) x.c x.k (M.ext hb.out.x hW) (by rw [hk.out]; omega) hgl.out (by have := hwx.out; unfold wfI at this; unfold wfA; omega) hhx.out)
          have hj1 : (0 : Int) ≤ (j : Int) := by omega
          have hj2 : (j : Int) < (ng : Int) := by omega
          generalize pkN zg k = r at *
          have hr1 : (0 : Int) ≤ (r : Int) := by omega
          have hr2 : (r : Int) < (k : Int) := by omega
          obtain ⟨c0, c1, c2, c3, c4, c5, c6⟩ := dc
          obtain ⟨a0, a1, a2, a3, a4, a5, a6, a7, a8⟩ := hb.out.b.cells
          have hFl := fun b hb9 => M.lt hb.out.x (b := b) hb9
          have xA : Ext wr (wr.alloc (.cells #[.slice none 0 0, .pointer none, .pointer none, Vi 0, Vi 0, Vi 0, Vq 0, Vq 0, .pointer none] 33)).drew := ((Ext.refl _).alloc _).drew
          have xB : Ext wr wr.drew := (Ext.refl _).drew
          clear hxi c2 c3 c4 c5 c6
          go_wp2_with fail
          go_cut [14, 15] (fun s e wx => NewL Ls F wr K (gsI K (gone.take j) ++ [(x.c, x.k)]) s e wx)
          case first =>
            have hs8 := Lib.hid (Nat.le_refl wr.heap.size)
            have hs9 := hs8
            refine wp_soft_frameV (KL Ls wr) 17 16 14 _ (fun _ => True) (NewPL Ls F wr.heap.size (K) (gsI K (gone.take j) ++ [(x.c, x.k)])) 18 (lor16 Ls F wr.heap.size p4 bk ok k cm bp op ng cg j r zg xv x K (gsI K (gone.take j) ++ [(x.c, x.k)])) (by kernel_rfl) (by kernel_rfl) (fun _ _ _ => KL.trans) (fun _ _ => KL.ext M) (fun _ _ _ h => h) (fun _ _ _ h => (fun x => NewPL.ext M x h)) (by omega) trivial rfl (by show List.Nodup [76, 77, 78, 79, 80, 81, 82, 83, 84, 85, 86, 87, 88, 75, 89, 90, 14, 15]; decide) (by show ∀ d ∈ [76, 77, 78, 79, 80, 81, 82, 83, 84, 85, 86, 87, 88, 75, 89, 90, 14, 15], d < 196; decide) rfl (by kernel_rfl) (lor16_mono M F wr.heap.size p4 bk ok k cm bp op ng cg j r zg xv x K (gsI K (gone.take j) ++ [(x.c, x.k)]) wr) ?_ ⟨?_, ?_, ?_, ?_, ?_, ?_, ?_, ?_, ?_, ?_, ?_, ?_, ?_, ?_, ?_, ?_, ?_, ?_, trivial⟩
            · intro W f hT hR hPost
              have t0 := hT 0 76 _ rfl (by decide)
              have t1 := hT 1 77 _ rfl (by decide)
              have t2 := hT 2 78 _ rfl (by decide)
              have t3 := hT 3 79 _ rfl (by decide)
              have t4 := hT 4 80 _ rfl (by decide)
              have t5 := hT 5 81 _ rfl (by decide)
              have t6 := hT 6 82 _ rfl (by decide)
              have t7 := hT 7 83 _ rfl (by decide)
              have t8 := hT 8 84 _ rfl (by decide)
              have t9 := hT 9 85 _ rfl (by decide)
              have t10 := hT 10 86 _ rfl (by decide)
              have t11 := hT 11 87 _ rfl (by decide)
              have t12 := hT 12 88 _ rfl (by decide)
              have t13 := hT 13 75 _ rfl (by decide)
              have t14 := hT 14 89 _ rfl (by decide)
              have t15 := hT 15 90 _ rfl (by decide)
              simp only [lor16, List.map_cons, List.map_nil, putAll, List.setIfInBounds_toArray, List.set_cons_zero, List.set_cons_succ, List.drop_succ_cons, List.drop_zero]
              try simp only at t0 t1 t2 t3 t4 t5 t6 t7 t8 t9 t10 t11 t15
              obtain ⟨y12, t12, _⟩ := t12
              obtain ⟨y13, t13, _⟩ := t13
              obtain ⟨y14, t14, _⟩ := t14
              obtain ⟨p9, yv, F1, eq, hp9, hy9, hI9, hF9, hN9⟩ := hPost
              rw [t0, t1, t2, t3, t4, t5, t6, t7, t8, t9, t10, t11, t15, t12, t13, t14, eq]
              clear t0 t1 t2 t3 t4 t5 t6 t7 t8 t9 t10 t11 t15 t12 t13 t14 eq hT
              have hXR := hR.1 (Ext.refl _)
              go_wp2_with fail
              go_meet
              exact ⟨p9, yv, F1, rfl, rfl, hy9, hI9, hF9, hN9, hp9, hXR⟩
            · refine softV_val 76 _ (by kernel_rfl) rfl rfl ?_
              intro a9 W hx hpre hout hdep
              have ev9 : a9.tmps[9]?.getD undef = .pointer (some ⟨p4, 0, none⟩) := by rw [← Array.getD_eq_getD_getElem?]; exact hout 9 (by show 9 ∉ [76, 77, 78, 79, 80, 81, 82, 83, 84, 85, 86, 87, 88, 75, 89, 90, 14, 15]; decide)
              have hE := hx.1 (Ext.refl _)
              have q0 := hE.keep a0
              have q1 := hE.keep a1
              have q2 := hE.keep a2
              have q3 := hE.keep a3
              have q4 := hE.keep a4
              have q5 := hE.keep a5
              have q6 := hE.keep a6
              have q7 := hE.keep a7
              have q8 := hE.keep a8
              refine ⟨rfl, lsv xv, W, ?_, rfl, Ext.refl _⟩
              simp [ev9, q0, q1, q2, q3, q4, q5, q6, q7, q8, execOp, go_sem]
            · refine softV_val 77 _ (by kernel_rfl) rfl rfl ?_
              intro a9 W hx hpre hout hdep
              have ev8 : a9.tmps[8]?.getD undef = .slice (some ⟨bk, ok, none⟩) k cm := by rw [← Array.getD_eq_getD_getElem?]; exact hout 8 (by show 8 ∉ [76, 77, 78, 79, 80, 81, 82, 83, 84, 85, 86, 87, 88, 75, 89, 90, 14, 15]; decide)
              refine ⟨rfl, .slice (some ⟨bk, ok, none⟩) k cm, W, ?_, rfl, Ext.refl _⟩
              simp [ev8, execOp, go_sem]
            · refine softV_val 78 _ (by kernel_rfl) rfl rfl ?_
              intro a9 W hx hpre hout hdep
              have ev2 : a9.tmps[2]?.getD undef = .slice (some ⟨bp, op, none⟩) ng cg := by rw [← Array.getD_eq_getD_getElem?]; exact hout 2 (by show 2 ∉ [76, 77, 78, 79, 80, 81, 82, 83, 84, 85, 86, 87, 88, 75, 89, 90, 14, 15]; decide)
              refine ⟨rfl, .slice (some ⟨bp, op, none⟩) ng cg, W, ?_, rfl, Ext.refl _⟩
              simp [ev2, execOp, go_sem]
            · refine softV_val 79 _ (by kernel_rfl) rfl rfl ?_
              intro a9 W hx hpre hout hdep
              have ev13 : a9.tmps[13]?.getD undef = Vi (j : Int) := by rw [← Array.getD_eq_getD_getElem?]; exact hout 13 (by show 13 ∉ [76, 77, 78, 79, 80, 81, 82, 83, 84, 85, 86, 87, 88, 75, 89, 90, 14, 15]; decide)
              refine ⟨rfl, Vi (j : Int), W, ?_, rfl, Ext.refl _⟩
              simp [ev13, execOp, go_sem]
            · refine softV_val 80 _ (by kernel_rfl) rfl rfl ?_
              intro a9 W hx hpre hout hdep
              have ev78 : a9.tmps[78]?.getD undef = .slice (some ⟨bp, op, none⟩) ng cg := by rw [← Array.getD_eq_getD_getElem?]; exact (hdep ⟨2, .data⟩ (by simp) rfl 78 _ rfl (.inl (by simp))).1
              have ev79 : a9.tmps[79]?.getD undef = Vi (j : Int) := by rw [← Array.getD_eq_getD_getElem?]; exact (hdep ⟨3, .data⟩ (by simp) rfl 79 _ rfl (.inl (by simp))).1
              refine ⟨rfl, .pointer (some ⟨bp, op + j, none⟩), W, ?_, rfl, Ext.refl _⟩
              simp [ev78, ev79, hj1, hj2, execOp, go_sem]
            · refine softV_val 81 _ (by kernel_rfl) rfl rfl ?_
              intro a9 W hx hpre hout hdep
              have ev80 : a9.tmps[80]?.getD undef = .pointer (some ⟨bp, op + j, none⟩) := by rw [← Array.getD_eq_getD_getElem?]; exact (hdep ⟨4, .data⟩ (by simp) rfl 80 _ rfl (.inl (by simp))).1
              have hE := hx.1 (Ext.refl _)
              have q0 := hE.keep hcp
              refine ⟨rfl, Vi zg, W, ?_, rfl, Ext.refl _⟩
              simp [ev80, q0, execOp, go_sem]
            · refine softV_val 82 _ (by kernel_rfl) rfl rfl ?_
              intro a9 W hx hpre hout hdep
              have ev8 : a9.tmps[8]?.getD undef = .slice (some ⟨bk, ok, none⟩) k cm := by rw [← Array.getD_eq_getD_getElem?]; exact hout 8 (by show 8 ∉ [76, 77, 78, 79, 80, 81, 82, 83, 84, 85, 86, 87, 88, 75, 89, 90, 14, 15]; decide)
              refine ⟨rfl, .slice (some ⟨bk, ok, none⟩) k cm, W, ?_, rfl, Ext.refl _⟩
              simp [ev8, execOp, go_sem]
            · refine softV_val 83 _ (by kernel_rfl) rfl rfl ?_
              intro a9 W hx hpre hout hdep
              have ev82 : a9.tmps[82]?.getD undef = .slice (some ⟨bk, ok, none⟩) k cm := by rw [← Array.getD_eq_getD_getElem?]; exact (hdep ⟨6, .data⟩ (by simp) rfl 82 _ rfl (.inl (by simp))).1
              refine ⟨rfl, Vi (k : Int), W, ?_, rfl, Ext.refl _⟩
              simp [ev82, execOp, go_sem]
            · refine softV_call 84 _ (by kernel_rfl) rfl rfl ?_
              intro a9 W hx hpre hout hdep
              have ev81 : a9.tmps[81]?.getD undef = Vi zg := by rw [← Array.getD_eq_getD_getElem?]; exact (hdep ⟨5, .data⟩ (by simp) rfl 81 _ rfl (.inl (by simp))).1
              have ev83 : a9.tmps[83]?.getD undef = Vi (k : Int) := by rw [← Array.getD_eq_getD_getElem?]; exact (hdep ⟨7, .data⟩ (by simp) rfl 83 _ rfl (.inl (by simp))).1
              refine ⟨rfl, 8, #[Vi zg, Vi (k : Int)], ?_, ?_⟩
              · simp [ev81, ev83, execOp, go_sem]
              · exact (hpk W).mono (by rintro e W1 ⟨rfl, rfl⟩; exact ⟨_, rfl, rfl, Ext.refl _⟩)
            · refine softV_val 85 _ (by kernel_rfl) rfl rfl ?_
              intro a9 W hx hpre hout hdep
              have ev77 : a9.tmps[77]?.getD undef = .slice (some ⟨bk, ok, none⟩) k cm := by rw [← Array.getD_eq_getD_getElem?]; exact (hdep ⟨1, .data⟩ (by simp) rfl 77 _ rfl (.inl (by simp))).1
              have ev84 : a9.tmps[84]?.getD undef = Vi (r : Int) := by rw [← Array.getD_eq_getD_getElem?]; exact (hdep ⟨8, .data⟩ (by simp) rfl 84 _ rfl (.inl (by simp))).1
              refine ⟨rfl, .pointer (some ⟨bk, ok + r * 7, none⟩), W, ?_, rfl, Ext.refl _⟩
              simp [ev77, ev84, hr1, hr2, execOp, go_sem]
            · refine softV_val 86 _ (by kernel_rfl) rfl rfl ?_
              intro a9 W hx hpre hout hdep
              have ev85 : a9.tmps[85]?.getD undef = .pointer (some ⟨bk, ok + r * 7, none⟩) := by rw [← Array.getD_eq_getD_getElem?]; exact (hdep ⟨9, .data⟩ (by simp) rfl 85 _ rfl (.inl (by simp))).1
              refine ⟨rfl, .pointer (some ⟨bk, ok + r * 7, none⟩), W, ?_, rfl, Ext.refl _⟩
              simp [ev85, execOp, go_sem]
            · refine softV_val 87 _ (by kernel_rfl) rfl rfl ?_
              intro a9 W hx hpre hout hdep
              have ev86 : a9.tmps[86]?.getD undef = .pointer (some ⟨bk, ok + r * 7, none⟩) := by rw [← Array.getD_eq_getD_getElem?]; exact (hdep ⟨10, .data⟩ (by simp) rfl 86 _ rfl (.inl (by simp))).1
              have hE := hx.1 (Ext.refl _)
              have q0 := hE.keep c0
              have q1 := hE.keep c1
              refine ⟨rfl, idv x.c x.k, W, ?_, rfl, Ext.refl _⟩
              simp [ev86, q0, q1, execOp, go_sem]
            · refine softV_call 88 _ (by kernel_rfl) rfl rfl ?_
              intro a9 W hx hpre hout hdep
              have ev76 : a9.tmps[76]?.getD undef = lsv xv := by rw [← Array.getD_eq_getD_getElem?]; exact (hdep ⟨0, .data⟩ (by simp) rfl 76 _ rfl (.inl (by simp))).1
              have ev87 : a9.tmps[87]?.getD undef = idv x.c x.k := by rw [← Array.getD_eq_getD_getElem?]; exact (hdep ⟨11, .data⟩ (by simp) rfl 87 _ rfl (.inl (by simp))).1
              refine ⟨rfl, 9, #[lsv xv, idv x.c x.k], ?_, ?_⟩
              · simp [ev76, ev87, execOp, go_sem]
              · exact (hadd.out W (hx.1 (Ext.refl _))).mono (by rintro e W1 ⟨F1, v1, rfl, h1, h2, h3⟩; obtain ⟨yv, rfl⟩ := M.shape h1; exact ⟨_, rfl, ⟨yv, rfl, F1, h1, fun b9 hb => (h2 b9 hb).imp id (fun h => Nat.le_trans (hx.1 (Ext.refl _)).size h)⟩, h3⟩)
            · refine softV_val 75 _ (by kernel_rfl) rfl rfl ?_
              intro a9 W hx hpre hout hdep
              have tl88 := (hdep ⟨12, .data⟩ (by simp) rfl 88 _ rfl (.inl (by simp))).1
              obtain ⟨yv, eyv, hI9⟩ := tl88
              rw [Array.getD_eq_getD_getElem?] at eyv
              refine ⟨rfl, .tuple #[lsv yv, .nilIface], W, ?_, ⟨yv, rfl, hI9⟩, Ext.refl _⟩
              simp [eyv, execOp, go_sem]
            · refine softV_val 89 _ (by kernel_rfl) rfl rfl ?_
              intro a9 W hx hpre hout hdep
              have tl75 := (hdep ⟨13, .data⟩ (by simp) rfl 75 _ rfl (.inl (by simp))).1
              obtain ⟨yv, eyv, hI9⟩ := tl75
              rw [Array.getD_eq_getD_getElem?] at eyv
              refine ⟨rfl, lsv yv, W, ?_, ⟨yv, rfl, hI9⟩, Ext.refl _⟩
              simp [eyv, execOp, go_sem]
            · refine softV_val 90 _ (by kernel_rfl) rfl rfl ?_
              intro a9 W hx hpre hout hdep
              have tl75 := (hdep ⟨13, .data⟩ (by simp) rfl 75 _ rfl (.inl (by simp))).1
              obtain ⟨yv, eyv, hI9⟩ := tl75
              rw [Array.getD_eq_getD_getElem?] at eyv
              refine ⟨rfl, .nilIface, W, ?_, rfl, Ext.refl _⟩
              simp [eyv, execOp, go_sem]
            · refine softV_val 14 _ (by kernel_rfl) rfl rfl ?_
              intro a9 W hx hpre hout hdep
              refine ⟨rfl, .pointer (some ⟨W.heap.size, 0, none⟩), W.alloc (.cells #[.slice none 0 0, .pointer none, .pointer none, Vi 0, Vi 0, Vi 0, Vq 0, Vq 0, .pointer none] 33), ?_, ⟨_, rfl, Nat.le_trans hs9.out (hx.1 (Ext.refl _)).size, BxL.new W zLv⟩, (Ext.refl W).alloc _⟩
              simp [execOp, go_sem]
            · rw [if_pos (by rfl)]
              refine softD_none 15 (by kernel_rfl) rfl rfl ?_
              intro a9 W hx hpre hout hdep
              have tl14 := (hdep ⟨16, .data⟩ (by simp) rfl 14 _ rfl).1
              have tl89 := (hdep ⟨14, .data⟩ (by simp) rfl 89 _ rfl).1
              obtain ⟨qb, eqb, hqb, hzb⟩ := tl14
              obtain ⟨yv, eyv, hI2⟩ := tl89
              have eqb0 := eqb
              rw [Array.getD_eq_getD_getElem?] at eqb eyv
              obtain ⟨kc0, kc1, kc2, kc3, kc4, kc5, kc6, kc7, kc8⟩ := hzb.cells
              have fc0 := hzb.thaw 0
              have fc1 := hzb.thaw 1
              have fc2 := hzb.thaw 2
              have fc3 := hzb.thaw 3
              have fc4 := hzb.thaw 4
              have fc5 := hzb.thaw 5
              have fc6 := hzb.thaw 6
              have fc7 := hzb.thaw 7
              have fc8 := hzb.thaw 8
              have hpn := putL_new M (w := wr) hs8.out hqb hzb hI2
              rw [← eqb0] at hpn
              refine ⟨rfl, putL W qb yv, ?_, hpn.1, hpn.2⟩
              simp [eqb, eyv, kc0, fc0, kc1, fc1, kc2, fc2, kc3, fc3, kc4, fc4, kc5, fc5, kc6, fc6, kc7, fc7, kc8, fc8, execOp, go_sem]
          case rest =>
            obtain ⟨p, yv, F1, rfl, rfl, by', hy, hF1, hFp, hlp, xc⟩ := hcut
            rw [← hgs.out] at hy
            have b4c := hb.out.b.ext xc
            have f0 := b4c.thaw 0
            have f1 := b4c.thaw 1
            have f2 := b4c.thaw 2
            have f3 := b4c.thaw 3
            have f4 := b4c.thaw 4
            have f5 := b4c.thaw 5
            have f6 := b4c.thaw 6
            have f7 := b4c.thaw 7
            have f8 := b4c.thaw 8
            obtain ⟨g0, g1, g2, g3, g4, g5, g6, g7, g8⟩ := b4c.cells
            obtain ⟨k0, k1, k2, k3, k4, k5, k6, k7, k8⟩ := by'.cells
            have hfin := Lib.hid (show BL Ls p4 K (gsI K (gone.take (j + 1))) F1 yv (putL wc p4 yv) from hb.out.put M xc hy hF1)
            have hfe := Lib.hid (RX.down (he.out.trans xc) hl4 (putL_rx wc p4 yv))
            clear c0 c1 hcp
            clear a0 a1 a2 a3 a4 a5 a6 a7 a8
            clear xA xB b4c by' hy hF1 hFp xc hb he
            go_wp2_with fail
            go_roundw
            case rel => exact ⟨j + 1, F1, yv, by go_num, by omega, hfin, hfe⟩
            case measure => simp [intOf]; omega
        · have hjn : j = ng := by omega
          rw [show gone.take j = gone by rw [hjn, ← hgn.out]; exact List.take_length] at hb
          have hgl : Hid ((gsI K gone).length ≤ 30) := Lib.hid (by unfold gsI; rw [List.length_map, hgn.out]; omega)
          have hMr := Lib.hid (hM2.out.ext he.out)
          have hstart := Lib.hid (Parts.start hkm.out)
          generalize hgsE : gsI K gone = gs at *
          replace hgsE := Lib.hid hgsE
          go_wp2_with (first
            | (at_builtin
               refine wpList_append_IB (w0 := wr) rfl (.tmp 94) (.tmp 95) rfl _ [] rfl (OwnI.emptyL (Ext.refl wr)) ((Ext.refl wr).alloc _) Am k cm K rfl hk.out (hMr.out.ext ((Ext.refl wr).alloc _)) (by rw [hk.out, List.length_nil]; omega) ?_
               intro v5 w5 o5 x5 g5 e5
               obtain ⟨A5, c5, rfl, hc5, hI5⟩ := o5.open
               have hb17 : BL Ls w5.heap.size [] [] (fun _ => False) zLv (w5.alloc (.cells #[.slice none 0 0, .pointer none, .pointer none, Vi 0, Vi 0, Vi 0, Vq 0, Vq 0, .pointer none] 33)) := ⟨BxL.new w5 zLv, M.zero _, fun b hb => hb.elim⟩
               have x17 : Ext w5 (w5.alloc (.cells #[.slice none 0 0, .pointer none, .pointer none, Vi 0, Vi 0, Vi 0, Vq 0, Vq 0, .pointer none] 33)) := (Ext.refl _).alloc _
               have hR0 := Lib.hid (show OrR Ls wr K gs w5.heap.size 0 k (.slice A5 ([] ++ K).length c5) (w5.alloc (.cells #[.slice none 0 0, .pointer none, .pointer none, Vi 0, Vi 0, Vi 0, Vq 0, Vq 0, .pointer none] 33)) from ⟨A5, c5, [] ++ K, [], [], fun _ => False, zLv, rfl, by rw [List.nil_append, hk.out]; exact Nat.le_refl _, Lib.hid
                 { room := hc5, row := hI5.ext x17, off := fun b o s e => (by have := (o5.lt b (by rw [e]; rfl)).2; omega), part := hstart.out, kn := rfl, len := rfl, g1 := fun a ha => (by cases ha), g2 := fun a ha => (by cases ha), g3 := Nat.le_refl _, z := hb17, e := x5.trans x17 }⟩)
               have hl17 : wr.heap.size ≤ w5.heap.size := x5.size
               clear hc5 hI5 o5 x5 g5 e5 hb17 x17)
            | fail)
          generalize w5.alloc (.cells #[.slice none 0 0, .pointer none, .pointer none, Vi 0, Vi 0, Vi 0, Vq 0, Vq 0, .pointer none] 33) = w6 at *
          generalize hp17e : w5.heap.size = p17 at *
          clear hp17e
          have h417 : p4 < p17 := by have := hb.out.b.lt; omega
          clear hstart
          replace he := Lib.hid he.out
          generalize wr = w3 at *
          go_loopg [16, 18, 19, 20, 21, 22, 23, 24, 25, 26, 27] k (fun gk vr vi _ _ _ _ _ _ _ _ _ W => ∃ ol : Nat, vi = Vi (ol : Int) ∧ OrR Ls w3 K gs p17 ol gk vr W)
          case atStart => exact ⟨0, rfl, hR0.out⟩
          case round =>
            clear hR0
            obtain ⟨ol, rfl, Ar, cr, rest, other, G, F2, zv, rfl, hgk, hO⟩ := hrel
            obtain ⟨rl, hrl⟩ : ∃ rl, rest.length = rl := ⟨_, rfl⟩
            rw [hrl] at hgk ⊢
            replace hrl := Lib.hid hrl
            have hsum := Lib.hid (show ol + rl = k by have := hO.out.part.len; rw [hrl.out, hO.out.len, hk.out] at this; exact this)
            have hol30 : ol ≤ 30 := by have := hsum.out; omega
            have hrl30 : rl ≤ 30 := by have := hsum.out; omega
            have hcr : rl ≤ cr := by have := hO.out.room; rw [hrl.out] at this; exact this
            by_cases hr0 : 0 < rl
            · obtain ⟨br, ort, hAr⟩ : ∃ b o, Ar = some ⟨b, o, none⟩ := by
                obtain ⟨b, o, x, e, _⟩ := hO.out.row.at (k := 0) (by rw [hrl.out]; exact hr0)
                exact ⟨b, o, e⟩
              subst hAr
              have hr0' : (0 : Int) < (rl : Int) := by omega
              have hd0 : decide (0 < rl) = true := decide_eq_true hr0
              have hx0 := Lib.hid (Ext.refl wr)
              go_upto_if 105 with fail
              go_cut [19] (fun s wx => ∃ p : Nat, p < rl ∧ s = Vi (p : Int) ∧ Hid (Ext wr wx))
              case first =>
                by_cases hlp : ol < np
                · have hdl : decide (ol < np) = true := decide_eq_true hlp
                  obtain ⟨zp, hzp⟩ : ∃ zp, picks[ol]? = some zp := ⟨picks[ol]'(by rw [hpn.out]; exact hlp), List.getElem?_eq_getElem _⟩
                  obtain ⟨bp, op, hAp, hcp⟩ := (hp2.out.ext (he.out.trans hO.out.e)).at hzp
                  subst hAp
                  have hl1 : (0 : Int) ≤ (ol : Int) := by omega
                  have hl2 : (ol : Int) < (np : Int) := by omega
                  have hpk : ∀ W, Calls Try.prog 8 #[Vi zp, Vi (rl : Int)] W fun e w' => (∃ r : Nat, r < rl ∧ e = .returned (Vi (r : Int))) ∧ W = w' := fun W => pick8_any zp rl W hr0 (by omega)
                  clear hzp
                  rw [hdl]
                  go_wp2_with fail
                  refine (hpk _).mono ?_
                  rintro e w6 ⟨⟨r, hr, rfl⟩, rfl⟩
                  clear hpk
                  go_wp2_with fail
                  go_meet
                  exact ⟨r, hr, rfl, hx0⟩
                · have hdl : decide (ol < np) = false := decide_eq_false hlp
                  rw [hdl]
                  go_wp2_with fail
                  go_meet
                  exact ⟨0, hr0, rfl, hx0⟩
              case rest =>
                obtain ⟨p, hpr, rfl, xc⟩ := hcut
                replace hO := Lib.hid (hO.out.ext M xc.out)
                clear xc hx0
                go_wp2
                go_loopw [16, 20, 21] (fun vr vput vk W => OrI Ls w3 wc K gs p17 ol p rl cr (some ⟨br, ort, none⟩) rest other vr vput vk W) (fun _ vput vk _ => putN vput vk rl)
                case atStart => exact .inl ⟨rfl, rfl, 0, Nat.zero_le _, rfl, Lib.hid (fun i hi => absurd hi (Nat.not_lt_zero _)), Lib.hid (Ext.refl _)⟩
                case round =>
                  rcases hrel with ⟨rfl, rfl, q, hq, rfl, hnone, xq⟩ | ⟨rfl, q, hq, rfl, hnx⟩
                  · by_cases hql : q < rl
                    · obtain ⟨t, ht⟩ : ∃ t, (p + q) % rl = t := ⟨_, rfl⟩
                      have htl : t < rl := by rw [← ht]; exact Nat.mod_lt _ hr0
                      have hem := Lib.hid (show ((p : Int) + (q : Int)) % (rl : Int) = (t : Int) by rw [← ht]; rfl)
                      have hlq : (q : Int) < (rl : Int) := by omega
                      have hOq := Lib.hid (hO.out.ext M xq.out)
                      obtain ⟨b', o', x, hAb, hxt, dx⟩ := hOq.out.row.at (k := (p + q) % rl) (by rw [hrl.out, ht]; exact htl)
                      injection hAb with hAb
                      injection hAb with hA1 hA2 hA3
                      subst hA1
                      subst hA2
                      obtain ⟨d0, d1, d2, d3, d4, d5, d6⟩ := dx
                      have ht1 : (0 : Int) ≤ ((p : Int) + (q : Int)) % (rl : Int) := by rw [hem.out]; omega
                      have ht2 : ((p : Int) + (q : Int)) % (rl : Int) < (rl : Int) := by rw [hem.out]; omega
                      have hxK := Lib.hid (hOq.out.part.hr x (List.mem_of_getElem? hxt))
                      have hbx := BoxI.newL wr x
                      have xbx := Lib.hid ((Ext.refl wr).alloc (.cells #[.int .u32 x.c, .int .u32 x.k, .int .u32 x.lc, .int .u32 x.lk, .int .u32 x.rc, .int .u32 x.rk, .int .i32 x.ch] 43))
                      replace hxt := Lib.hid hxt
                      have ht0 := Lib.hid ht
                      clear ht
                      go_wp2_with fail
                      rw [hem.out]
                      rw [ht0.out] at hxt d0 d1 d2 d3 d4 d5 d6 ⊢
                      clear ht1 ht2
                      generalize wr.alloc (.cells #[.int .u32 x.c, .int .u32 x.k, .int .u32 x.lc, .int .u32 x.lk, .int .u32 x.rc, .int .u32 x.rk, .int .i32 x.ch] 43) = w7 at *
                      obtain ⟨pi, hpi⟩ : ∃ pi, wr.heap.size = pi := ⟨_, rfl⟩
                      rw [hpi] at hbx ⊢
                      replace hpi := Lib.hid hpi
                      go_loopw [24, 25] (fun vd vj W => ∃ (j : Nat) (b : Bool), j ≤ ng ∧ vd = .bool b ∧ vj = Vi (j : Int) ∧ Hid (b = goneI (gsI K (gone.take j)) (x.c, x.k)) ∧ Hid (Ext w7 W)) (fun _ vj _ => ng - (intOf vj).toNat)
                      case atStart => exact ⟨0, false, Nat.zero_le _, rfl, rfl, Lib.hid rfl, Lib.hid (Ext.refl _)⟩
                      case round =>
                        obtain ⟨j, b, hj, rfl, rfl, hbj, xj⟩ := hrel
                        by_cases hjl : j < ng
                        · obtain ⟨zg, hzg⟩ : ∃ z, gone[j]? = some z := ⟨_, List.getElem?_eq_getElem (by rw [hgn.out]; exact hjl)⟩
                          have hX7 := Lib.hid (he.out.trans (hOq.out.e.trans (xbx.out.trans xj.out)))
                          obtain ⟨bp, op, rfl, hcp⟩ := (hg2.out.ext hX7.out).at hzg
                          obtain ⟨y, hyi, hgx⟩ := gI_at (K := K) (z := zg) (by rw [hk.out]; exact hk0)
                          rw [hk.out] at hyi
                          have hrk : pkN zg k < k := pkN_lt hk0
                          obtain ⟨bk, ok, y', rfl, hyi', dy⟩ := (hM2.out.ext hX7.out).at (k := pkN zg k) (by rw [hk.out]; exact hrk)
                          rw [hyi] at hyi'
                          injection hyi' with hyi'
                          subst hyi'
                          have hgs := gsI_step (K := K) hzg
                          rw [hgx] at hgs
                          have hbn := Lib.hid (show goneI (gsI K (gone.take (j + 1))) (x.c, x.k) = (b || decide ((y.c, y.k) = (x.c, x.k))) by rw [hgs, gone_snoc, hbj.out])
                          have hpk : ∀ W, Calls Try.prog 8 #[Vi zg, Vi (k : Int)] W fun e w' => e = .returned (Vi ((pkN zg k : Nat) : Int)) ∧ W = w' := fun W => pick9_any zg k W hk0 (by omega)
                          have hj1 : (0 : Int) ≤ (j : Int) := by omega
                          have hj2 : (j : Int) < (ng : Int) := by omega
                          generalize pkN zg k = r at *
                          have hr1 : (0 : Int) ≤ (r : Int) := by omega
                          have hr2 : (r : Int) < (k : Int) := by omega
                          obtain ⟨y0, y1, _, _, _, _, _⟩ := dy
                          obtain ⟨i0, i1, _, _, _, _, _⟩ := (hbx.ext xj.out).cells
                          simp only [Nat.zero_add] at i0 i1
                          replace hcp := cell_regrown hcp
                          replace y0 := cell_regrown y0
                          replace y1 := cell_regrown y1
                          replace i0 := cell_regrown i0
                          replace i1 := cell_regrown i1
                          clear hyi hgs hgx
                          have hidq : ∀ W : World, (binOp .eql 41 (.agg #[.int .u32 y.c, .int .u32 y.k]) (.agg #[.int .u32 x.c, .int .u32 x.k])).run Try.prog W = .ok (.bool (decide ((y.c, y.k) = (x.c, x.k)))) W := fun W => by
                            rw [idT_eql]
                            simp
                          obtain ⟨e9, he9⟩ : ∃ e9, decide ((y.c, y.k) = (x.c, x.k)) = e9 := ⟨_, rfl⟩
                          rw [he9] at hidq hbn
                          clear he9
                          go_wp2_with fail
                          cases b with
                          | true =>
                            refine wp_region_quiet_below (by kernel_rfl) (by kernel_rfl) ?_
                            repeat go_big_quiet_step ((with_reducible exact Calls.same_regrown (hpk _)))
                            refine wpQuiet_nil ?_
                            intro _ hw'
                            obtain ⟨⟨dq, osq⟩, hw''⟩ := hw'
                            subst hw''
                            have xE := Lib.hid (xj.out.trans (Ext.regrown wr dq osq))
                            clear hcp y0 y1 i0 i1 hpk hidq xj
                            generalize grow (redrawn wr dq) osq = w8 at *
                            go_wp2_with fail
                            go_roundw
                            case rel => exact ⟨j + 1, true, by omega, rfl, by go_num, Lib.hid (by rw [hbn.out]; rfl), xE⟩
                            case measure => simp [intOf]; omega
                          | false =>
                            refine wp_region_quiet_below (by kernel_rfl) (by kernel_rfl) ?_
                            repeat go_big_quiet_step ((with_reducible exact Calls.same_regrown (hpk _)))
                            refine wpQuiet_nil ?_
                            intro _ hw'
                            obtain ⟨⟨dq, osq⟩, hw''⟩ := hw'
                            subst hw''
                            have xE := Lib.hid (xj.out.trans (Ext.regrown wr dq osq))
                            clear hcp y0 y1 i0 i1 hpk hidq xj
                            generalize grow (redrawn wr dq) osq = w8 at *
                            go_wp2_with fail
                            go_roundw
                            case rel => exact ⟨j + 1, e9, by omega, rfl, by go_num, Lib.hid (by rw [hbn.out, Bool.false_or]), xE⟩
                            case measure => simp [intOf]; omega
                        · have hjn : j = ng := by omega
                          rw [show gone.take j = gone by rw [hjn, ← hgn.out]; exact List.take_length, hgsE.out] at hbj
                          have hO8 := Lib.hid (hOq.out.ext M (xbx.out.trans xj.out))
                          have xqj := Lib.hid (xq.out.trans (xbx.out.trans xj.out))
                          have hwx := Lib.hid (hkw.out x hxK.out)
                          have hch := Lib.hid (hkc.out x hxK.out)
                          have hol8 := hO8.out.len
                          have hg38 := hO8.out.g3
                          obtain ⟨a0, a1, a2, a3, a4, a5, a6, a7, a8⟩ := hO8.out.z.b.cells
                          obtain ⟨i0, i1, i2, i3, i4, i5, i6⟩ := (hbx.ext xj.out).cells
                          simp only [Nat.zero_add] at i0 i1 i2 i3 i4 i5 i6
                          clear d0 d1 d2 d3 d4 d5 d6 hbx hOq xj xbx xq
                          cases hf : knownX other x with
                          | false =>
                            have hca : canI other x = false := by rw [canI_is, hf]; rfl
                            have hadd := Lib.hid (M.addNo F2 wr (lsv zv) other G x b hO8.out.z.x (by rw [hol8]; omega) (by omega) hwx.out hca)
                            have hnone' := Lib.hid (show ∀ i, i < q + 1 → ∀ z, rest[(p + i) % rl]? = some z → knownX other z = false from fun i hi z hz => by
                              rcases Nat.lt_or_ge i q with g | g
                              · exact hnone.out i g z hz
                              · obtain rfl : i = q := by omega
                                rw [ht0.out, hxt.out] at hz
                                injection hz with hz
                                rw [← hz]; exact hf)
                            rw [show errv 1 = .iface 88 (Vi 1) from rfl] at hadd
                            clear hca hf
                            go_wp2_with fail
                            refine hadd.out.mono ?_
                            rintro e w9 ⟨yv, rfl, x9⟩
                            have xE := Lib.hid ((xqj.out.trans x9).alloc (.cells #[.slice yv.A yv.n yv.c, .pointer yv.l, .pointer yv.r, Vi yv.h, Vi yv.m, Vi yv.s, Vq yv.lo, Vq yv.hi, .pointer yv.p] 33))
                            clear x9 hadd i0 i1 i2 i3 i4 i5 i6
                            clear a0 a1 a2 a3 a4 a5 a6 a7 a8
                            go_wp2_with fail
                            go_roundw
                            case rel => exact .inl ⟨rfl, rfl, q + 1, by omega, by go_num, hnone', xE⟩
                            case measure => simp [putN, intOf]; omega
                          | true =>
                            have hca : canI other x = true := by rw [canI_is, hf, hch.out]; rfl
                            have hadd := Lib.hid (M.add F2 wr (lsv zv) other G x b hO8.out.z.x (by rw [hol8]; omega) (by omega) hwx.out hca)
                            have hkn2 := Lib.hid (show knownI (other ++ [x]) = true by rw [known_snoc, hO8.out.kn, hf]; rfl)
                            have hno := Lib.hid (show hasI other (x.c, x.k) = false from (knownX_spec hf).2.1)
                            have hstep := Lib.hid (hO8.out.part.step hxt.out)
                            clear hca hf
                            go_wp2_with fail
                            refine hadd.out.mono ?_
                            rintro e w9 ⟨F3, v9, rfl, hL9, hF9, x9⟩
                            obtain ⟨yv, rfl⟩ := M.shape hL9
                            obtain ⟨G', hG'⟩ : ∃ G', (if b then G ++ [(x.c, x.k)] else G) = G' := ⟨_, rfl⟩
                            rw [hG'] at hL9
                            have xa9 : Ext w9 (w9.alloc (.cells #[.slice yv.A yv.n yv.c, .pointer yv.l, .pointer yv.r, Vi yv.h, Vi yv.m, Vi yv.s, Vq yv.lo, Vq yv.hi, .pointer yv.p] 33)) := (Ext.refl _).alloc _
                            have hz9 := (hO8.out.z.b.ext x9).ext xa9
                            have hBL := Lib.hid (hO8.out.z.put M (x9.trans xa9) (M.ext hL9 xa9) hF9)
                            have hby := BxL.new w9 yv
                            have hrow := Lib.hid ((hO8.out.row.ext (x9.trans xa9)).rx (putL_rx _ p17 yv) hO8.out.off)
                            have hE9 := Lib.hid (RX.down (hO8.out.e.trans (x9.trans xa9)) hl17 (putL_rx _ p17 yv))
                            have hgm := Lib.hid (gone_more hO8.out.g1 hno.out hO8.out.g2 hbj.out)
                            rw [hG'] at hgm
                            have hGl := Lib.hid (show G'.length ≤ ol + 1 by
                              rw [← hG']
                              split
                              · rw [List.length_append, List.length_singleton]; omega
                              · omega)
                            replace hG' := Lib.hid hG'
                            clear hL9 hF9 x9 hadd i0 i1 i2 i3 i4 i5 i6
                            clear a0 a1 a2 a3 a4 a5 a6 a7 a8
                            obtain ⟨g0, g1, g2, g3, g4, g5, g6, g7, g8⟩ := hz9.cells
                            have f0 := hz9.thaw 0
                            have f1 := hz9.thaw 1
                            have f2 := hz9.thaw 2
                            have f3 := hz9.thaw 3
                            have f4 := hz9.thaw 4
                            have f5 := hz9.thaw 5
                            have f6 := hz9.thaw 6
                            have f7 := hz9.thaw 7
                            have f8 := hz9.thaw 8
                            obtain ⟨k0, k1, k2, k3, k4, k5, k6, k7, k8⟩ := hby.cells
                            clear hz9 hby xa9
                            go_upto_if 164 with fail
                            generalize w9.alloc (.cells #[.slice yv.A yv.n yv.c, .pointer yv.l, .pointer yv.r, Vi yv.h, Vi yv.m, Vi yv.s, Vq yv.lo, Vq yv.hi, .pointer yv.p] 33) = wy at *
                            go_wp2_with fail
                            obtain ⟨w10, hw10⟩ : ∃ w10, putL wy p17 yv = w10 := ⟨_, rfl⟩
                            rw [hw10] at hBL hrow hE9
                            change Code.wp _ _ _ _ (putL wy p17 yv)
                            rw [hw10]
                            clear hw10
                            clear g0 g1 g2 g3 g4 g5 g6 g7 g8
                            clear f0 f1 f2 f3 f4 f5 f6 f7 f8
                            clear k0 k1 k2 k3 k4 k5 k6 k7 k8
                            have hf4 := Lib.hid (show t + 1 ≤ rl by omega)
                            have hf5 := Lib.hid (show t ≤ cr by omega)
                            have hbt := Lib.hid (show t ≤ 5026338869833 by omega)
                            have hf1 := Lib.hid (show t + (rl - (t + 1)) ≤ 5026338869833 by omega)
                            have hf2 := Lib.hid (show t + (rl - (t + 1)) = rl - 1 by omega)
                            have hf10 := Lib.hid (show IntKind.i64.wrap ((t : Int) + 1) = (t : Int) + 1 from IntWalk.i64_in _ (by omega))
                            have hup := fun W => uptoI (some ⟨br, ort, none⟩) rl cr t hf5.out (t : Int) rfl W
                            have hfr := fun W => fromI (some ⟨br, ort, none⟩) rl cr (t + 1) hf4.out ((t : Int) + 1) rfl W
                            have htk := Lib.hid (take_len_ltL hrl.out hf4.out)
                            have hdr := Lib.hid (show (rest.drop (t + 1)).length = rl - (t + 1) by rw [List.length_drop, hrl.out])
                            refine wp_soft_frame Ext 9 (lor43 br ort rl cr t rest w10) (by kernel_rfl) (by kernel_rfl) (fun _ _ _ => Ext.trans) ((Ext.refl _).drew) rfl (by show List.Nodup [166, 167, 168, 169, 170, 171, 172, 173, 174]; decide) (by show ∀ d ∈ [166, 167, 168, 169, 170, 171, 172, 173, 174], d < 196; decide) (lor43_mono br ort rl cr t rest w10 Ext (fun _ _ h => h)) ?_ ⟨?_, ?_, ?_, ?_, ?_, ?_, ?_, ?_, ?_, trivial⟩
                            · intro W vs hT hR
                              match vs, hT with
                              | [v0, v1, v2, v3, v4, v5, v6, v7, v8], ⟨e0, e1, e2, e3, e4, e5, e6, e7, e8, _⟩ =>
                                simp only [lor43, List.map_cons, List.map_nil, List.zip_cons_cons, List.zip_nil_left, putAll, List.setIfInBounds_toArray, List.set_cons_zero, List.set_cons_succ, List.drop_succ_cons, List.drop_zero]
                                simp only at e1 e2 e3 e5 e6 e7 e8
                                obtain ⟨q0, e0, h0⟩ := e0
                                obtain ⟨q4, e4, h4⟩ := e4
                                rw [e0, e1, e2, e3, e4, e5, e6, e7, e8]
                                clear e0 e1 e2 e3 e4 e5 e6 e7 e8 v0 v1 v2 v3 v4 v5 v6 v7 v8
                                clear hT h0
                                go_wp2_with (first
                                  | (at_builtin
                                     refine wpList_append_IB (w0 := w10) rfl (.tmp 170) (.tmp 174) rfl _ (rest.take t) rfl h4 hR _ (rl - (t + 1)) (cr - (t + 1)) (rest.drop (t + 1)) rfl hdr.out ((hrow.out.ext hR).cut hrl.out hcr hf4.out) (by rw [htk.out, hdr.out]; exact hf1.out) ?_
                                     intro v8 w8 o8 x8 g8 e8
                                     obtain ⟨A8, c8, rfl, hc8, hI8⟩ := o8.open
                                     have hl8 : (rest.take t ++ rest.drop (t + 1)).length = rl - 1 := by rw [List.length_append, htk.out, hdr.out]; exact hf2.out
                                     have hrel8 := Lib.hid (show OrR Ls w3 K gs p17 (ol + 1) (rl - 1) (.slice A8 (rest.take t ++ rest.drop (t + 1)).length c8) w8 from
                                       ⟨A8, c8, rest.take t ++ rest.drop (t + 1), other ++ [x], G', F3, yv, rfl, by rw [hl8]; exact Nat.le_refl _, Lib.hid
                                         { room := hc8, row := hI8, off := fun b9 o9 s9 e9 => (by have h1 := (o8.lt b9 (by rw [e9]; rfl)).1; have h2 := hBL.out.b.lt; omega), part := hstep.out, kn := hkn2.out, len := by rw [List.length_append, hol8]; rfl, g1 := hgm.out.1, g2 := hgm.out.2, g3 := hGl.out, z := hBL.out.ext M x8, e := hE9.out.trans x8 }⟩)
                                     clear hc8 hI8 o8 x8 g8 e8 hl8)
                                  | fail)
                                go_roundw
                                case rel =>
                                  have e1 : min t rest.length + (rest.length - (t + 1)) = (rest.take t ++ rest.drop (t + 1)).length := by rw [List.length_append, List.length_take, List.length_drop]
                                  first
                                    | exact .inr ⟨rfl, q + 1, by omega, by go_num, hrel8⟩
                                    | (rw [e1]; exact .inr ⟨rfl, q + 1, by omega, by go_num, hrel8⟩)
                                case measure => simp [putN, intOf]; omega
                            · refine softR_val 166 _ (by kernel_rfl) rfl rfl ?_
                              intro a W hx hout hdep
                              refine ⟨rfl, .slice (some ⟨W.heap.size, 0, none⟩) 0 0, _, ?_, ⟨_, rfl, hx.size, heap_alloc_new W _⟩, (Ext.refl W).alloc _⟩
                              simp [execOp, go_sem]
                            · refine softR_val 167 _ (by kernel_rfl) rfl rfl ?_
                              intro a W hx hout hdep
                              have ev16 : a.tmps[16]?.getD undef = .slice (some ⟨br, ort, none⟩) rl cr := by rw [← Array.getD_eq_getD_getElem?]; exact hout 16 (by show 16 ∉ [166, 167, 168, 169, 170, 171, 172, 173, 174]; decide)
                              refine ⟨rfl, .slice (some ⟨br, ort, none⟩) rl cr, W, ?_, rfl, Ext.refl _⟩
                              simp [ev16, execOp, go_sem]
                            · refine softR_val 168 _ (by kernel_rfl) rfl rfl ?_
                              intro a W hx hout hdep
                              have ev22 : a.tmps[22]?.getD undef = Vi (t : Int) := by rw [← Array.getD_eq_getD_getElem?]; exact hout 22 (by show 22 ∉ [166, 167, 168, 169, 170, 171, 172, 173, 174]; decide)
                              refine ⟨rfl, Vi (t : Int), W, ?_, rfl, Ext.refl _⟩
                              simp [ev22, execOp, go_sem]
                            · refine softR_val 169 _ (by kernel_rfl) rfl rfl ?_
                              intro a W hx hout hdep
                              have ev167 : a.tmps[167]?.getD undef = .slice (some ⟨br, ort, none⟩) rl cr := by rw [← Array.getD_eq_getD_getElem?]; exact (hdep ⟨1, .data⟩ (by simp) rfl 167 _ rfl).1
                              have ev168 : a.tmps[168]?.getD undef = Vi (t : Int) := by rw [← Array.getD_eq_getD_getElem?]; exact (hdep ⟨2, .data⟩ (by simp) rfl 168 _ rfl).1
                              refine ⟨rfl, .slice (some ⟨br, ort, none⟩) t cr, W, ?_, rfl, Ext.refl _⟩
                              simp [ev167, ev168, hup, execOp, go_sem]
                            · refine softR_val 170 _ (by kernel_rfl) rfl rfl ?_
                              intro a W hx hout hdep
                              have tl166 := (hdep ⟨0, .data⟩ (by simp) rfl 166 _ rfl).1
                              have ev169 : a.tmps[169]?.getD undef = .slice (some ⟨br, ort, none⟩) t cr := by rw [← Array.getD_eq_getD_getElem?]; exact (hdep ⟨3, .data⟩ (by simp) rfl 169 _ rfl).1
                              obtain ⟨q9, eq9, hq9, hc9⟩ := tl166
                              have hs9 : a.eval (.tmp 166) = .slice (some ⟨q9, 0, none⟩) 0 0 := eq9
                              have ht9 : a.eval (.tmp 169) = .slice (some ⟨br, ort, none⟩) t cr := (hdep ⟨3, .data⟩ (by simp) rfl 169 _ rfl).1
                              obtain ⟨v9, w9, hrun9, ho9, hx9⟩ := run_append_I0 w10 W 35 q9 (rest.take t) (some ⟨br, ort, none⟩) t cr htk.out ((hrow.out.ext hx).take t) hx hbt.out hq9 hc9
                              refine ⟨rfl, v9, w9, ?_, ⟨_, rfl, ho9⟩, hx9⟩
                              simp only [execOp, resolve, invoke, builtin, Sem.run_bind, Sem.run_pure, Result.andThen_ok, List.map_toArray, List.map_cons, List.map_nil, hs9, ht9, hrun9]
                            · refine softR_val 171 _ (by kernel_rfl) rfl rfl ?_
                              intro a W hx hout hdep
                              have ev16 : a.tmps[16]?.getD undef = .slice (some ⟨br, ort, none⟩) rl cr := by rw [← Array.getD_eq_getD_getElem?]; exact hout 16 (by show 16 ∉ [166, 167, 168, 169, 170, 171, 172, 173, 174]; decide)
                              refine ⟨rfl, .slice (some ⟨br, ort, none⟩) rl cr, W, ?_, rfl, Ext.refl _⟩
                              simp [ev16, execOp, go_sem]
                            · refine softR_val 172 _ (by kernel_rfl) rfl rfl ?_
                              intro a W hx hout hdep
                              have ev22 : a.tmps[22]?.getD undef = Vi (t : Int) := by rw [← Array.getD_eq_getD_getElem?]; exact hout 22 (by show 22 ∉ [166, 167, 168, 169, 170, 171, 172, 173, 174]; decide)
                              refine ⟨rfl, Vi (t : Int), W, ?_, rfl, Ext.refl _⟩
                              simp [ev22, execOp, go_sem]
                            · refine softR_val 173 _ (by kernel_rfl) rfl rfl ?_
                              intro a W hx hout hdep
                              have ev172 : a.tmps[172]?.getD undef = Vi (t : Int) := by rw [← Array.getD_eq_getD_getElem?]; exact (hdep ⟨6, .data⟩ (by simp) rfl 172 _ rfl).1
                              refine ⟨rfl, Vi ((t : Int) + 1), W, ?_, rfl, Ext.refl _⟩
                              simp [ev172, hf10.out, execOp, go_sem]
                            · refine softR_val 174 _ (by kernel_rfl) rfl rfl ?_
                              intro a W hx hout hdep
                              have ev171 : a.tmps[171]?.getD undef = .slice (some ⟨br, ort, none⟩) rl cr := by rw [← Array.getD_eq_getD_getElem?]; exact (hdep ⟨5, .data⟩ (by simp) rfl 171 _ rfl).1
                              have ev173 : a.tmps[173]?.getD undef = Vi ((t : Int) + 1) := by rw [← Array.getD_eq_getD_getElem?]; exact (hdep ⟨7, .data⟩ (by simp) rfl 173 _ rfl).1
                              refine ⟨rfl, .slice (cutA (some ⟨br, ort, none⟩) cr (t + 1) 7) (rl - (t + 1)) (cr - (t + 1)), W, ?_, rfl, Ext.refl _⟩
                              simp [ev171, ev173, hfr, execOp, go_sem]
                    · exfalso
                      have hqe : q = rl := by omega
                      obtain ⟨j, zj, hj, hkj⟩ := come_some hkm.out hO.out.part.ho hO.out.part.hr hO.out.part.dis hO.out.part.cov (fun e => by have := hrl.out; rw [e] at this; simp at this; omega)
                      obtain ⟨i, hi, hij⟩ := come_roundL hpr (show j < rl by have := (List.getElem?_eq_some_iff.1 hj).1; rw [hrl.out] at this; exact this)
                      rw [← hij] at hj
                      rw [hnone.out i (by omega) zj hj] at hkj
                      cases hkj
                  · obtain ⟨Ar', cr', rest', other', G', F', zv', rfl, hgk', hO'⟩ := hnx.out
                    clear hnx
                    by_cases hql : q < rest'.length
                    · go_wp2_with fail
                      go_roundg (rl - 1)
                      case measure => omega
                      case rel => exact ⟨ol + 1, by go_num, Ar', cr', rest', other', G', F', zv', rfl, hgk', hO'⟩
                    · go_wp2_with fail
                      go_roundg (rl - 1)
                      case measure => omega
                      case rel => exact ⟨ol + 1, by go_num, Ar', cr', rest', other', G', F', zv', rfl, hgk', hO'⟩
            · have hr00 : rl = 0 := by omega
              have hdl : decide (0 < rl) = false := decide_eq_false hr0
              have hrest : rest = [] := List.eq_nil_of_length_eq_zero (by rw [hrl.out]; exact hr00)
              subst hrest
              have hEE : entL other G = entL K gs := ent_same hO.out.kn hkm.out hO.out.part.full (fun a ha => hO.out.g1 a ha)
              have hbz := Lib.hid (hb.out.ext M hO.out.e)
              obtain ⟨a0, a1, a2, a3, a4, a5, a6, a7, a8⟩ := hbz.out.b.cells
              obtain ⟨g0, g1, g2, g3, g4, g5, g6, g7, g8⟩ := hO.out.z.b.cells
              have hgl9 := hgl.out
              have hol9 := hO.out.len
              have hg39 := hO.out.g3
              have hix1 := Lib.hid (fun W (hW : Ext wr W) => M.index F W (lsv xv) K gs (M.ext hbz.out.x hW) (by rw [hk.out]; omega) (by omega))
              have hix2 := Lib.hid (fun W (hW : Ext wr W) => M.index F2 W (lsv zv) other G (M.ext hO.out.z.x hW) (by rw [hol9]; omega) (by omega))
              have htx1 := Lib.hid (fun W (hW : Ext wr W) => M.text F W (lsv xv) K gs (M.ext hbz.out.x hW) (by rw [hk.out]; omega) (by omega))
              have htx2 := Lib.hid (fun W (hW : Ext wr W) => M.text F2 W (lsv zv) other G (M.ext hO.out.z.x hW) (by rw [hol9]; omega) (by omega))
              have hEl : (entL K gs).length ≤ 1000 := by rw [entL_len hkm.out, hk.out]; omega
              rw [hEE] at hix2 htx2
              have hXw := Lib.hid (xw2.trans (he.out.trans hO.out.e))
              clear hEE hbz hO hb
              generalize entL K gs = E at *
              go_wp2_with fail
              refine wp_soft_frame Ext 7 (lor46 xv zv E) (by kernel_rfl) (by kernel_rfl) (fun _ _ _ => Ext.trans) ((Ext.refl _).drew) rfl (by show List.Nodup [178, 179, 180, 181, 182, 183, 184]; decide) (by show ∀ d ∈ [178, 179, 180, 181, 182, 183, 184], d < 196; decide) (lor46_mono xv zv E Ext (fun _ _ h => h)) ?_ ⟨?_, ?_, ?_, ?_, ?_, ?_, ?_, trivial⟩
              · intro W vs hT hR
                match vs, hT with
                | [v0, v1, v2, v3, v4, v5, v6], ⟨e0, e1, e2, e3, e4, e5, e6, _⟩ =>
                  simp only [lor46, List.map_cons, List.map_nil, List.zip_cons_cons, List.zip_nil_left, putAll, List.setIfInBounds_toArray, List.set_cons_zero, List.set_cons_succ, List.drop_succ_cons, List.drop_zero]
                  simp only at e0 e3 e6
                  obtain ⟨q1, e1, h1⟩ := e1
                  obtain ⟨q2, e2, h2⟩ := e2
                  obtain ⟨q4, e4, h4⟩ := e4
                  obtain ⟨q5, e5, h5⟩ := e5
                  rw [e0, e1, e2, e3, e4, e5, e6]
                  clear e0 e1 e2 e3 e4 e5 e6 v0 v1 v2 v3 v4 v5 v6
                  clear hT
                  have hX8 := Lib.hid (hXw.out.trans hR)
                  replace a0 := hR.keep a0
                  replace a1 := hR.keep a1
                  replace a2 := hR.keep a2
                  replace a3 := hR.keep a3
                  replace a4 := hR.keep a4
                  replace a5 := hR.keep a5
                  replace a6 := hR.keep a6
                  replace a7 := hR.keep a7
                  replace a8 := hR.keep a8
                  replace g0 := hR.keep g0
                  replace g1 := hR.keep g1
                  replace g2 := hR.keep g2
                  replace g3 := hR.keep g3
                  replace g4 := hR.keep g4
                  replace g5 := hR.keep g5
                  replace g6 := hR.keep g6
                  replace g7 := hR.keep g7
                  replace g8 := hR.keep g8
                  have hse : ∀ W : World, (binOp .eql 9 (.string (textE E)) (.string (textE E))).run Try.prog W = .ok (.bool true) W := fun W => by simp [go_sem]
                  replace htx1 := Lib.hid (fun W1 (hW : Ext W W1) => htx1.out W1 (hR.trans hW))
                  replace htx2 := Lib.hid (fun W1 (hW : Ext W W1) => htx2.out W1 (hR.trans hW))
                  generalize textE E = S9 at *
                  clear hix1 hix2 hR
                  go_wp2_with fail
                  replace a0 := cell_regrown a0
                  replace a1 := cell_regrown a1
                  replace a2 := cell_regrown a2
                  replace a3 := cell_regrown a3
                  replace a4 := cell_regrown a4
                  replace a5 := cell_regrown a5
                  replace a6 := cell_regrown a6
                  replace a7 := cell_regrown a7
                  replace a8 := cell_regrown a8
                  replace g0 := cell_regrown g0
                  replace g1 := cell_regrown g1
                  replace g2 := cell_regrown g2
                  replace g3 := cell_regrown g3
                  replace g4 := cell_regrown g4
                  replace g5 := cell_regrown g5
                  replace g6 := cell_regrown g6
                  replace g7 := cell_regrown g7
                  replace g8 := cell_regrown g8
                  refine wp_region_quiet_below (by kernel_rfl) (by kernel_rfl) ?_
                  repeat go_big_quiet_step ((first | with_reducible exact Calls.in_regrown (htx1.out _ (Ext.regrown _ _ _)) | with_reducible exact Calls.in_regrown (htx2.out _ (Ext.regrown _ _ _))))
                  refine wpQuiet_nil ?_
                  intro _ hw'
                  obtain ⟨⟨dq, osq⟩, hw''⟩ := hw'
                  subst hw''
                  have xE := Lib.hid (hX8.out.trans (Ext.regrown W dq osq))
                  clear htx1 htx2 hse hX8
                  clear a0 a1 a2 a3 a4 a5 a6 a7 a8
                  clear g0 g1 g2 g3 g4 g5 g6 g7 g8
                  go_wp2
                  go_ret
                  exact ⟨rfl, xE.out⟩
              · refine softR_val 178 _ (by kernel_rfl) rfl rfl ?_
                intro a W hx hout hdep
                have ev9 : a.tmps[9]?.getD undef = .pointer (some ⟨p4, 0, none⟩) := by rw [← Array.getD_eq_getD_getElem?]; exact hout 9 (by show 9 ∉ [178, 179, 180, 181, 182, 183, 184]; decide)
                have q0 := hx.keep a0
                have q1 := hx.keep a1
                have q2 := hx.keep a2
                have q3 := hx.keep a3
                have q4 := hx.keep a4
                have q5 := hx.keep a5
                have q6 := hx.keep a6
                have q7 := hx.keep a7
                have q8 := hx.keep a8
                refine ⟨rfl, lsv xv, W, ?_, rfl, Ext.refl _⟩
                simp [ev9, q0, q1, q2, q3, q4, q5, q6, q7, q8, execOp, go_sem]
              · refine softR_call 179 _ (by kernel_rfl) rfl rfl ?_
                intro a W hx hout hdep
                have ev178 : a.tmps[178]?.getD undef = lsv xv := by rw [← Array.getD_eq_getD_getElem?]; exact (hdep ⟨0, .data⟩ (by simp) rfl 178 _ rfl).1
                refine ⟨rfl, 23, #[lsv xv], ?_, ?_⟩
                · simp [ev178, execOp, go_sem]
                · exact (hix1.out W hx).mono (by rintro e W1 ⟨vi, rfl, h1, h2⟩; exact ⟨vi, rfl, ⟨vi, rfl, h2⟩, h1⟩)
              · refine softR_call 180 _ (by kernel_rfl) rfl rfl ?_
                intro a W hx hout hdep
                have tl179 := (hdep ⟨1, .data⟩ (by simp) rfl 179 _ rfl).1
                obtain ⟨vi, e9, hI9⟩ := tl179
                rw [Array.getD_eq_getD_getElem?] at e9
                refine ⟨rfl, 24, #[vi], ?_, ?_⟩
                · simp [execOp, go_sem, e9]
                · exact (hI9 W (Ext.refl _)).mono (by rintro e W1 ⟨A9, c9, rfl, h1, h2⟩; exact ⟨_, rfl, ⟨_, rfl, A9, c9, rfl, h1⟩, h2⟩)
              · refine softR_val 181 _ (by kernel_rfl) rfl rfl ?_
                intro a W hx hout hdep
                have ev17 : a.tmps[17]?.getD undef = .pointer (some ⟨p17, 0, none⟩) := by rw [← Array.getD_eq_getD_getElem?]; exact hout 17 (by show 17 ∉ [178, 179, 180, 181, 182, 183, 184]; decide)
                have q0 := hx.keep g0
                have q1 := hx.keep g1
                have q2 := hx.keep g2
                have q3 := hx.keep g3
                have q4 := hx.keep g4
                have q5 := hx.keep g5
                have q6 := hx.keep g6
                have q7 := hx.keep g7
                have q8 := hx.keep g8
                refine ⟨rfl, lsv zv, W, ?_, rfl, Ext.refl _⟩
                simp [ev17, q0, q1, q2, q3, q4, q5, q6, q7, q8, execOp, go_sem]
              · refine softR_call 182 _ (by kernel_rfl) rfl rfl ?_
                intro a W hx hout hdep
                have ev181 : a.tmps[181]?.getD undef = lsv zv := by rw [← Array.getD_eq_getD_getElem?]; exact (hdep ⟨3, .data⟩ (by simp) rfl 181 _ rfl).1
                refine ⟨rfl, 23, #[lsv zv], ?_, ?_⟩
                · simp [ev181, execOp, go_sem]
                · exact (hix2.out W hx).mono (by rintro e W1 ⟨vi, rfl, h1, h2⟩; exact ⟨vi, rfl, ⟨vi, rfl, h2⟩, h1⟩)
              · refine softR_call 183 _ (by kernel_rfl) rfl rfl ?_
                intro a W hx hout hdep
                have tl182 := (hdep ⟨4, .data⟩ (by simp) rfl 182 _ rfl).1
                obtain ⟨vi, e9, hI9⟩ := tl182
                rw [Array.getD_eq_getD_getElem?] at e9
                refine ⟨rfl, 24, #[vi], ?_, ?_⟩
                · simp [execOp, go_sem, e9]
                · exact (hI9 W (Ext.refl _)).mono (by rintro e W1 ⟨A9, c9, rfl, h1, h2⟩; exact ⟨_, rfl, ⟨_, rfl, A9, c9, rfl, h1⟩, h2⟩)
              · refine softR_call 184 _ (by kernel_rfl) rfl rfl ?_
                intro a W hx hout hdep
                have tl180 := (hdep ⟨2, .data⟩ (by simp) rfl 180 _ rfl).1
                have tl183 := (hdep ⟨5, .data⟩ (by simp) rfl 183 _ rfl).1
                obtain ⟨q1, e1, A1, c1, rfl, h1⟩ := tl180
                obtain ⟨q2, e2, A2, c2, rfl, h2⟩ := tl183
                rw [Array.getD_eq_getD_getElem?] at e1 e2
                refine ⟨rfl, 22, #[.slice A1 E.length c1, .slice A2 E.length c2], ?_, ?_⟩
                · simp [execOp, go_sem, e1, e2]
                · exact (sameE_any A1 A2 E.length c1 c2 E W h1 h2 rfl (by omega)).mono fun e W1 h => ⟨_, h.1, rfl, h.2⟩
end Go.Proofs.Ytmpomammieenjaa
