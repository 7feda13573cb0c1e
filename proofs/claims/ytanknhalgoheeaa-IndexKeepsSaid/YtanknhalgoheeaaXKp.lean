/-
  The walk of IndexKeeps; no claim stands here.
-/
import Derived.Test.YtanknhalgoheeaaXBig
import Derived.Test.YtanknhalgoheeaaSoft7
import Derived.Test.YtanknhalgoheeaaXPm
namespace Go.Proofs.Ytanknhalgoheeaa
open Go.ChangeShapes Go.WideShapes Go.ChangeAt Go.RowKit Go.Sort
set_option linter.unusedVariables false
attribute [local go_sem] World.cell?_alloc_some

/-- what the slots hold -/
def kp10Tab (F : Nat → Prop) (b0 px lb lo j N c6 : Nat) (xv : Xv) (x : En) (L2 : List En) : SoftTab := [(46, fun z9 W => z9 = ixv xv),
  (47, fun z9 W => z9 = .slice (some ⟨lb, lo, none⟩) N c6),
  (48, fun z9 W => z9 = Vi (j : Int)),
  (49, fun z9 W => z9 = .pointer (some ⟨lb, lo + j * 4, none⟩)),
  (50, fun z9 W => z9 = env x),
  (51, fun z9 W => ∃ F2 yv, z9 = .tuple #[ixv yv, .nilIface] ∧ Ix F2 W (ixv yv) L2 ∧ (∀ b, F2 b → F b ∨ b0 ≤ b)),
  (45, fun z9 W => ∃ F2 yv, z9 = .tuple #[ixv yv, .nilIface] ∧ Ix F2 W (ixv yv) L2 ∧ (∀ b, F2 b → F b ∨ b0 ≤ b)),
  (52, fun z9 W => ∃ F2 yv, z9 = ixv yv ∧ Ix F2 W (ixv yv) L2 ∧ (∀ b, F2 b → F b ∨ b0 ≤ b)),
  (53, fun z9 W => z9 = .nilIface),
  (10, fun z9 W => ∃ q, z9 = Vp q ∧ b0 ≤ q ∧ W.heap[q]? = some (.cells #[.slice none 0 0, .pointer none, .pointer none, Vi 0, Vi 0, Vi 0, Vq 0, Vq 0] 31 (0, 0))),
  (11, fun z9 W => True)]
theorem kp10Tab_mono (F : Nat → Prop) (b0 px lb lo j N c6 : Nat) (xv : Xv) (x : En) (L2 : List En) (wq : World) : SoftMonoV (KR wq) 9 (kp10Tab F b0 px lb lo j N c6 xv x L2) := by
  constructor
  · intro k d R hk v' W W' h hx
    have hp := List.mem_of_getElem? hk
    simp only [kp10Tab, List.mem_cons, Prod.mk.injEq, List.not_mem_nil, or_false] at hp
    rcases hp with ⟨_, rfl⟩ | ⟨_, rfl⟩ | ⟨_, rfl⟩ | ⟨_, rfl⟩ | ⟨_, rfl⟩ | ⟨_, rfl⟩ | ⟨_, rfl⟩ | ⟨_, rfl⟩ | ⟨_, rfl⟩ | ⟨_, rfl⟩ | ⟨_, rfl⟩
    all_goals first
      | exact h
      | (obtain ⟨F2, yv, h1, h2, h3⟩ := h
         exact ⟨F2, yv, h1, h2.ext hx, h3⟩)
      | (obtain ⟨q, h1, h2, h3⟩ := h
         exact ⟨q, h1, h2, by rw [RowKit.Below.block hx q (Array.getElem?_eq_some_iff.1 h3).1]; exact h3⟩)
  · intro k d R hk hne v' W W' h hx
    have hkn : k < 11 := (List.getElem?_eq_some_iff.1 hk).1
    have h9 : k = 0 ∨ k = 1 ∨ k = 2 ∨ k = 3 ∨ k = 4 ∨ k = 5 ∨ k = 6 ∨ k = 7 ∨ k = 8 ∨ k = 10 := by omega
    rcases h9 with rfl | rfl | rfl | rfl | rfl | rfl | rfl | rfl | rfl | rfl
    all_goals
      simp only [kp10Tab, List.getElem?_cons_succ, List.getElem?_cons_zero, Option.some.injEq, Prod.mk.injEq] at hk
      obtain ⟨_, rfl⟩ := hk
      first
        | exact h
        | (obtain ⟨F2, yv, h1, h2, h3⟩ := h
           obtain ⟨F3, h4, h5⟩ := hx.2 F2 _ _ h2
           exact ⟨F3, yv, h1, h5, fun b hb => h3 b (h4 b hb)⟩)

/-- what the slots hold -/
def kp15Tab (F : Nat → Prop) (b0 px lb lo kq N c6 : Nat) (xv : Xv) (x : En) (L2 : List En) : SoftTab := [(75, fun z9 W => z9 = ixv xv),
  (76, fun z9 W => z9 = .slice (some ⟨lb, lo, none⟩) N c6),
  (77, fun z9 W => z9 = Vi (kq : Int)),
  (78, fun z9 W => z9 = .pointer (some ⟨lb, lo + kq * 4, none⟩)),
  (79, fun z9 W => z9 = .pointer (some ⟨lb, lo + kq * 4, none⟩)),
  (80, fun z9 W => z9 = idv x.c x.k),
  (81, fun z9 W => ∃ F2 yv, z9 = .tuple #[ixv yv, .nilIface] ∧ Ix F2 W (ixv yv) L2 ∧ (∀ b, F2 b → F b ∨ b0 ≤ b)),
  (74, fun z9 W => ∃ F2 yv, z9 = .tuple #[ixv yv, .nilIface] ∧ Ix F2 W (ixv yv) L2 ∧ (∀ b, F2 b → F b ∨ b0 ≤ b)),
  (82, fun z9 W => ∃ F2 yv, z9 = ixv yv ∧ Ix F2 W (ixv yv) L2 ∧ (∀ b, F2 b → F b ∨ b0 ≤ b)),
  (83, fun z9 W => z9 = .nilIface),
  (13, fun z9 W => ∃ q, z9 = Vp q ∧ b0 ≤ q ∧ W.heap[q]? = some (.cells #[.slice none 0 0, .pointer none, .pointer none, Vi 0, Vi 0, Vi 0, Vq 0, Vq 0] 31 (0, 0))),
  (14, fun z9 W => True)]
theorem kp15Tab_mono (F : Nat → Prop) (b0 px lb lo kq N c6 : Nat) (xv : Xv) (x : En) (L2 : List En) (wq : World) : SoftMonoV (KR wq) 10 (kp15Tab F b0 px lb lo kq N c6 xv x L2) := by
  constructor
  · intro k d R hk v' W W' h hx
    have hp := List.mem_of_getElem? hk
    simp only [kp15Tab, List.mem_cons, Prod.mk.injEq, List.not_mem_nil, or_false] at hp
    rcases hp with ⟨_, rfl⟩ | ⟨_, rfl⟩ | ⟨_, rfl⟩ | ⟨_, rfl⟩ | ⟨_, rfl⟩ | ⟨_, rfl⟩ | ⟨_, rfl⟩ | ⟨_, rfl⟩ | ⟨_, rfl⟩ | ⟨_, rfl⟩ | ⟨_, rfl⟩ | ⟨_, rfl⟩
    all_goals first
      | exact h
      | (obtain ⟨F2, yv, h1, h2, h3⟩ := h
         exact ⟨F2, yv, h1, h2.ext hx, h3⟩)
      | (obtain ⟨q, h1, h2, h3⟩ := h
         exact ⟨q, h1, h2, by rw [RowKit.Below.block hx q (Array.getElem?_eq_some_iff.1 h3).1]; exact h3⟩)
  · intro k d R hk hne v' W W' h hx
    have hkn : k < 12 := (List.getElem?_eq_some_iff.1 hk).1
    have h9 : k = 0 ∨ k = 1 ∨ k = 2 ∨ k = 3 ∨ k = 4 ∨ k = 5 ∨ k = 6 ∨ k = 7 ∨ k = 8 ∨ k = 9 ∨ k = 11 := by omega
    rcases h9 with rfl | rfl | rfl | rfl | rfl | rfl | rfl | rfl | rfl | rfl | rfl
    all_goals
      simp only [kp15Tab, List.getElem?_cons_succ, List.getElem?_cons_zero, Option.some.injEq, Prod.mk.injEq] at hk
      obtain ⟨_, rfl⟩ := hk
      first
        | exact h
        | (obtain ⟨F2, yv, h1, h2, h3⟩ := h
           obtain ⟨F3, h4, h5⟩ := hx.2 F2 _ _ h2
           exact ⟨F3, yv, h1, h5, fun b hb => h3 b (h4 b hb)⟩)

/-- what the first loop keeps -/
def KpRel (w3 : World) (B px N : Nat) (L : List En) (i : Value) (W : World) : Prop :=
  ∃ (j : Nat) (F : Nat → Prop) (xv : Xv), j ≤ N ∧ i = Vi j ∧ Hid (Ix F W (ixv xv) (L.take j).reverse) ∧ ¬ F px ∧ W.heap[px]? = some (.cells #[.slice xv.A xv.n xv.c, .pointer xv.l, .pointer xv.r, Vi xv.h, Vi xv.m, Vi xv.s, Vq xv.lo, Vq xv.hi] 31 (0, 0)) ∧ GX B px px w3 W

set_option maxRecDepth 100000 in
set_option maxHeartbeats 64000000 in
theorem keeps_walk (w : World) (A : Option Addr) (n c : Nat) (l : List En) (hv : EnS w A l) (hn : l.length = n) (hb : n ≤ 8796093022208) (hwl : ∀ x ∈ l, wfE x) (za : Int) (hza : -9223372036854775808 ≤ za ∧ za ≤ 9223372036854775807) :
    Calls Try.prog 4 #[.slice A n c, Vi za] w fun e w' => e = .returned (.bool true) ∧ Ext w w' := by
  have hup := Lib.hid (up7_any ix_w w)
  have hap := Lib.hid (fun W (hx : Ext w W) => apartB_any A n c l W (hv.ext hx) hn hb)
  have hLn : (apOf l).length ≤ n := by rw [← hn]; exact ap_le l
  have hLa := apart_ap l
  have hLw := ap_wf hwl
  generalize apOf l = L at *
  clear hv hwl hn
  go_enter Try.func4, Try.ntmps4
  go_wp2_with fail
  refine hup.out.mono ?_
  rintro e w0 ⟨rfl, x0⟩
  go_wp2_with fail
  refine (hap.out _ x0).mono ?_
  rintro e w1 ⟨v6, rfl, o6, x1⟩
  have y1 := x0.trans x1
  obtain ⟨A6, c6, rfl, hc6, hE6⟩ := OwnE.open o6
  clear hup hap o6
  obtain ⟨N, hN⟩ : ∃ N, L.length = N := ⟨_, rfl⟩
  rw [hN] at hc6 hLn ⊢
  replace hN := Lib.hid hN
  by_cases hbig : 100 < N
  · have g1 : decide ((100 : Int) < (N : Int)) = true := by rw [decide_eq_true_eq]; omega
    go_wp2
    go_ret
    exact ⟨rfl, y1⟩
  · have g1 : decide ((100 : Int) < (N : Int)) = false := by rw [decide_eq_false_iff_not]; omega
    by_cases hpos : N = 0
    · have g2 : ((N : Int) == 0) = true := by rw [beq_iff_eq]; omega
      go_wp2
      go_ret
      exact ⟨rfl, y1⟩
    · have g2 : ((N : Int) == 0) = false := by rw [beq_eq_false_iff_ne]; omega
      obtain ⟨w2, hw2⟩ : ∃ Z, w1.alloc (.cells #[.slice none 0 0, .pointer none, .pointer none, Vi 0, Vi 0, Vi 0, Vq 0, Vq 0] 31) = Z := ⟨_, rfl⟩
      obtain ⟨w3, hw3⟩ : ∃ Z, w2.alloc (.cells #[.slice none 0 0, .pointer none, .pointer none, Vi 0, Vi 0, Vi 0, Vq 0, Vq 0] 31) = Z := ⟨_, rfl⟩
      have x2 : Ext w1 w2 := by rw [← hw2]; exact (Ext.refl _).alloc _
      have x3 : Ext w2 w3 := by rw [← hw3]; exact (Ext.refl _).alloc _
      have hs2 : w2.heap.size = w1.heap.size + 1 := by rw [← hw2]; simp
      have hs3 : w3.heap.size = w1.heap.size + 2 := by rw [← hw3, show w1.heap.size + 2 = w2.heap.size + 1 by omega]; simp
      have hpf : w3.heap[w1.heap.size]? = some (.cells #[.slice none 0 0, .pointer none, .pointer none, Vi 0, Vi 0, Vi 0, Vq 0, Vq 0] 31 (0, 0)) := by rw [RowKit.Below.block x3 _ (by omega), ← hw2]; exact heap_alloc_new _ _
      have hpx : w3.heap[w1.heap.size + 1]? = some (.cells #[.slice none 0 0, .pointer none, .pointer none, Vi 0, Vi 0, Vi 0, Vq 0, Vq 0] 31 (0, 0)) := by rw [← hs2, ← hw3]; exact heap_alloc_new _ _
      replace hw2 := Lib.hid hw2
      replace hw3 := Lib.hid hw3
      go_wp2
      rw [hw2.out, hw3.out]
      obtain ⟨pf, hpfd⟩ : ∃ z, w1.heap.size = z := ⟨_, rfl⟩
      have x13 := x2.trans x3
      rw [hpfd] at hs2 hs3 hpf hpx ⊢
      obtain ⟨px, hpxd⟩ : ∃ z, pf + 1 = z := ⟨_, rfl⟩
      rw [hpxd] at hpx ⊢
      obtain ⟨B, hBd⟩ : ∃ z, w3.heap.size = z := ⟨_, rfl⟩
      have hB3 : B = pf + 2 := by omega
      have hG3 : GX B px px w3 w3 := GX.refl B px px w3 (by omega)
      have hend1 : ∀ Z, GX B px px w3 Z → Ext w1 Z := fun Z hG => hG.down x13 (by omega) (by omega) (by omega)
      have hI3 : Hid (Ix (fun _ => False) w3 (ixv zX) (L.take 0).reverse) := Lib.hid (ix_w.zero w3)
      replace hend1 := Lib.hid hend1
      clear hw2 hw3 hs2 x2 x3
      have hpfx : pf ≠ px := by omega
      have hpfB : pf < B := by omega
      have hpxB : px < B := by omega
      go_loopw [9] (KpRel w3 B px N L) (fun i _ => N - (intOf i).toNat)
      case atStart => exact ⟨0, fun _ => False, zX, Nat.zero_le _, rfl, hI3, fun h => h, hpx, hG3⟩
      case round =>
        clear hI3 hpx hG3
        obtain ⟨j, F, xv, hj, rfl, hI, hFp, hxb, hG⟩ := hrel
        have hE1 := hend1.out _ hG
        have hpxw : px < wr.heap.size := (Array.getElem?_eq_some_iff.1 hxb).1
        by_cases hlt : j < N
        · obtain ⟨lb, lo, x, rfl, hp, d⟩ := (hE6.ext hE1).at (k := j) (by rw [hN.out]; exact hlt)
          obtain ⟨c0, c1, c2, c3⟩ := d
          have hj1 : (0 : Int) ≤ (j : Int) := by omega
          have hj2 : (j : Int) < (N : Int) := by omega
          have hlj : ((L.take j).reverse).length = j := by rw [List.length_reverse, List.length_take, hN.out]; omega
          obtain ⟨b0, hb0⟩ : ∃ z, wr.heap.size = z := ⟨_, rfl⟩
          have hput := Lib.hid (fun W (hx : Ext wr W) => show Calls Try.prog 12 #[ixv xv, Vi 0, env x] W fun e w' => ∃ F2 yv, e = .returned (.tuple #[ixv yv, .nilIface]) ∧ Ix F2 w' (ixv yv) (L.take (j + 1)).reverse ∧ (∀ b, F2 b → F b ∨ b0 ≤ b) ∧ Ext W w' from
            (ix_w.put F W (ixv xv) (L.take j).reverse 0 x (hI.out.ext hx) (by omega) (apart_reverse _ (apart_take hLa j)) (fun y hy => hLw y (List.mem_of_mem_take (List.mem_reverse.1 hy))) (hLw x (List.mem_of_getElem? hp)) (Nat.zero_le _) (take_has hLa hp)).mono (by
              rintro e w' ⟨F2, v', rfl, h1, h2, h3⟩
              obtain ⟨yv, rfl⟩ := ix_w.shape h1
              rw [put_front, ← take_rev hp] at h1
              exact ⟨F2, yv, rfl, h1, fun b hb => (h2 b hb).imp id (fun h => by have := hx.size; omega), h3⟩))
          have hl2 : ((L.take (j + 1)).reverse).length = j + 1 := by rw [List.length_reverse, List.length_take, hN.out]; omega
          obtain ⟨a0, a1, a2, a3, a4, a5, a6, a7⟩ := Bx.row hxb
          obtain ⟨L2, hL2⟩ : ∃ z, (L.take (j + 1)).reverse = z := ⟨_, rfl⟩
          rw [hL2] at hput hl2
          replace hL2 := Lib.hid hL2
          clear hp
          go_wp2_with fail
          refine wp_soft_frameV (KR wr) 10 9 10 _ (fun _ => True) (fun v W => ∃ q F2 yv, v = Vp q ∧ b0 ≤ q ∧ W.heap[q]? = some (.cells #[.slice yv.A yv.n yv.c, .pointer yv.l, .pointer yv.r, Vi yv.h, Vi yv.m, Vi yv.s, Vq yv.lo, Vq yv.hi] 31 (0, 0)) ∧ Ix F2 W (ixv yv) L2 ∧ (∀ b, F2 b → F b ∨ b0 ≤ b)) 11 (kp10Tab F b0 px lb lo j N c6 xv x L2) (by kernel_rfl) (by kernel_rfl) (fun _ _ _ => KR.trans) (fun _ _ => KR.ext) (fun _ _ _ h => h) ?_ (by omega) trivial rfl (by show List.Nodup [46, 47, 48, 49, 50, 51, 45, 52, 53, 10, 11]; decide) (by show ∀ d ∈ [46, 47, 48, 49, 50, 51, 45, 52, 53, 10, 11], d < 186; decide) rfl (by kernel_rfl) (kp10Tab_mono F b0 px lb lo j N c6 xv x L2 wr) ?_ ⟨?_, ?_, ?_, ?_, ?_, ?_, ?_, ?_, ?_, ?_, ?_, trivial⟩
          · rintro v a b hab ⟨q, F2, yv, h1, h2, h3, h4, h5⟩
            exact ⟨q, F2, yv, h1, h2, by rw [RowKit.Below.block hab q (Array.getElem?_eq_some_iff.1 h3).1]; exact h3, h4.ext hab, h5⟩
          · intro W f hT hR hPost
            have t0 := hT 0 46 _ rfl (by decide)
            have t1 := hT 1 47 _ rfl (by decide)
            have t2 := hT 2 48 _ rfl (by decide)
            have t3 := hT 3 49 _ rfl (by decide)
            have t4 := hT 4 50 _ rfl (by decide)
            have t5 := hT 5 51 _ rfl (by decide)
            have t6 := hT 6 45 _ rfl (by decide)
            have t7 := hT 7 52 _ rfl (by decide)
            have t8 := hT 8 53 _ rfl (by decide)
            simp only [kp10Tab, List.map_cons, List.map_nil, putAll, List.setIfInBounds_toArray, List.set_cons_zero, List.set_cons_succ, List.drop_succ_cons, List.drop_zero]
            try simp only at t0 t1 t2 t3 t4 t8
            obtain ⟨_, y5, t5, _⟩ := t5
            obtain ⟨_, y6, t6, _⟩ := t6
            obtain ⟨_, y7, t7, _⟩ := t7
            obtain ⟨q, F2, yv, eq, hq0, hqy, hI2, hF2⟩ := hPost
            rw [t0, t1, t2, t3, t4, t8, t5, t6, t7, eq]
            clear t0 t1 t2 t3 t4 t8 t5 t6 t7 eq hT
            have hE5 := hR.1 (Ext.refl _)
            clear a0 a1 a2 a3 a4 a5 a6 a7 c0 c1 c2 c3 hput
            have hpx5 : W.heap[px]? = some (.cells #[.slice xv.A xv.n xv.c, .pointer xv.l, .pointer xv.r, Vi xv.h, Vi xv.m, Vi xv.s, Vq xv.lo, Vq xv.hi] 31 (0, 0)) := by rw [RowKit.Below.block hE5 px hpxw]; exact hxb
            have hF3 : ¬ F2 px := fun h => by
              rcases hF2 px h with h | h
              · exact hFp h
              · omega
            have hI5 := hI.out.ext hE5
            have hlen2 := Lib.hid (fun Z (hx : Ext W Z) => len_ix Z _ L2 (hI2.ext hx) (by omega))
            have hlen1 := Lib.hid (fun Z (hx : Ext W Z) => len_ix Z _ _ (hI5.ext hx) (by omega))
            have hwz : IntKind.i64.wrap ((j : Int) + 1) = (j : Int) + 1 := IntWalk.i64_in _ (by omega)
            have e1 : ((L2.length : Nat) : Int) = (j : Int) + 1 := by omega
            have e2 : ((L.take j).reverse.length : Int) = (j : Int) := by omega
            rw [e1] at hlen2
            rw [e2] at hlen1
            obtain ⟨a0, a1, a2, a3, a4, a5, a6, a7⟩ := Bx.row hqy
            have hq5 : q < W.heap.size := (Array.getElem?_eq_some_iff.1 hqy).1
            have hqx : q ≠ px := by omega
            clear hI5
            go_wp2_with fail
            refine (hlen2.out _ (Ext.refl _)).mono ?_
            rintro e W6 ⟨rfl, x6⟩
            clear a0 a1 a2 a3 a4 a5 a6 a7
            have hpx6 : W6.heap[px]? = some (.cells #[.slice xv.A xv.n xv.c, .pointer xv.l, .pointer xv.r, Vi xv.h, Vi xv.m, Vi xv.s, Vq xv.lo, Vq xv.hi] 31 (0, 0)) := by rw [RowKit.Below.block x6 px (Array.getElem?_eq_some_iff.1 hpx5).1]; exact hpx5
            obtain ⟨a0, a1, a2, a3, a4, a5, a6, a7⟩ := Bx.row hpx6
            go_wp2_with fail
            refine (hlen1.out _ x6).mono ?_
            rintro e W7 ⟨rfl, x7⟩
            clear a0 a1 a2 a3 a4 a5 a6 a7
            have hpx7 : W7.heap[px]? = some (.cells #[.slice xv.A xv.n xv.c, .pointer xv.l, .pointer xv.r, Vi xv.h, Vi xv.m, Vi xv.s, Vq xv.lo, Vq xv.hi] 31 (0, 0)) := by rw [RowKit.Below.block x7 px (Array.getElem?_eq_some_iff.1 hpx6).1]; exact hpx6
            have hqy7 : W7.heap[q]? = some (.cells #[.slice yv.A yv.n yv.c, .pointer yv.l, .pointer yv.r, Vi yv.h, Vi yv.m, Vi yv.s, Vq yv.lo, Vq yv.hi] 31 (0, 0)) := by rw [RowKit.Below.block (x6.trans x7) q hq5]; exact hqy
            obtain ⟨a0, a1, a2, a3, a4, a5, a6, a7⟩ := Bx.row hqy7
            have kc0 := cell_of_row W7 px 0 _ _ _ hpx7
            have fc0 := frozen_of_row W7 px 0 _ _ hpx7
            have kc1 := cell_of_row W7 px 1 _ _ _ hpx7
            have fc1 := frozen_of_row W7 px 1 _ _ hpx7
            have kc2 := cell_of_row W7 px 2 _ _ _ hpx7
            have fc2 := frozen_of_row W7 px 2 _ _ hpx7
            have kc3 := cell_of_row W7 px 3 _ _ _ hpx7
            have fc3 := frozen_of_row W7 px 3 _ _ hpx7
            have kc4 := cell_of_row W7 px 4 _ _ _ hpx7
            have fc4 := frozen_of_row W7 px 4 _ _ hpx7
            have kc5 := cell_of_row W7 px 5 _ _ _ hpx7
            have fc5 := frozen_of_row W7 px 5 _ _ hpx7
            have kc6 := cell_of_row W7 px 6 _ _ _ hpx7
            have fc6 := frozen_of_row W7 px 6 _ _ hpx7
            have kc7 := cell_of_row W7 px 7 _ _ _ hpx7
            have fc7 := frozen_of_row W7 px 7 _ _ hpx7
            obtain ⟨W8, hW8⟩ : ∃ Z, ((((((((W7.setCell ⟨px, 0, none⟩ (.slice yv.A yv.n yv.c)).setCell ⟨px, 1, none⟩ (.pointer yv.l)).setCell ⟨px, 2, none⟩ (.pointer yv.r)).setCell ⟨px, 3, none⟩ (Vi yv.h)).setCell ⟨px, 4, none⟩ (Vi yv.m)).setCell ⟨px, 5, none⟩ (Vi yv.s)).setCell ⟨px, 6, none⟩ (Vq yv.lo)).setCell ⟨px, 7, none⟩ (Vq yv.hi)) = Z := ⟨_, rfl⟩
            have hfr := fun (s : Nat) (hs : s ≠ px) => st8_other (w := W7) hs (.slice yv.A yv.n yv.c) (.pointer yv.l) (.pointer yv.r) (Vi yv.h) (Vi yv.m) (Vi yv.s) (Vq yv.lo) (Vq yv.hi)
            have hpx8 := st8_row hpx7 (.slice yv.A yv.n yv.c) (.pointer yv.l) (.pointer yv.r) (Vi yv.h) (Vi yv.m) (Vi yv.s) (Vq yv.lo) (Vq yv.hi)
            have hG8 := GX.st8 (hG.ext (hE5.trans (x6.trans x7))) (.slice yv.A yv.n yv.c) (.pointer yv.l) (.pointer yv.r) (Vi yv.h) (Vi yv.m) (Vi yv.s) (Vq yv.lo) (Vq yv.hi)
            rw [hW8] at hfr hpx8 hG8
            have hI8 := ix_w.frame (hI2.ext (x6.trans x7)) (fun b hb => hfr b (fun e => hF3 (e ▸ hb)))
            have hrel8 := Lib.hid (show KpRel w3 B px N L (.int .i64 ((j : Int) + 1)) W8 from ⟨j + 1, F2, yv, by omega, by go_num, Lib.hid (by rw [hL2.out]; exact hI8), hF3, hpx8, hG8⟩)
            clear hI8 hG8 hpx8 hfr hlen1 hlen2 hpx5 hpx6 hpx7 hqy7 hI2 hF2 e1 e2
            go_wp2
            go_roundw
            case rel => exact hrel8.out
            case measure => simp [intOf]; omega
          · refine softV_val 46 _ (by kernel_rfl) rfl rfl ?_
            intro a W hx hpre hout hdep
            have ev8 : a.tmps[8]?.getD undef = .pointer (some ⟨px, 0, none⟩) := by rw [← Array.getD_eq_getD_getElem?]; exact hout 8 (by show 8 ∉ [46, 47, 48, 49, 50, 51, 45, 52, 53, 10, 11]; decide)
            have hE := hx.1 (Ext.refl _)
            have q0 := hE.keep a0
            have q1 := hE.keep a1
            have q2 := hE.keep a2
            have q3 := hE.keep a3
            have q4 := hE.keep a4
            have q5 := hE.keep a5
            have q6 := hE.keep a6
            have q7 := hE.keep a7
            refine ⟨rfl, ixv xv, W, ?_, rfl, Ext.refl _⟩
            simp [ev8, q0, q1, q2, q3, q4, q5, q6, q7, execOp, go_sem]
          · refine softV_val 47 _ (by kernel_rfl) rfl rfl ?_
            intro a W hx hpre hout hdep
            have ev6 : a.tmps[6]?.getD undef = .slice (some ⟨lb, lo, none⟩) N c6 := by rw [← Array.getD_eq_getD_getElem?]; exact hout 6 (by show 6 ∉ [46, 47, 48, 49, 50, 51, 45, 52, 53, 10, 11]; decide)
            refine ⟨rfl, .slice (some ⟨lb, lo, none⟩) N c6, W, ?_, rfl, Ext.refl _⟩
            simp [ev6, execOp, go_sem]
          · refine softV_val 48 _ (by kernel_rfl) rfl rfl ?_
            intro a W hx hpre hout hdep
            have ev9 : a.tmps[9]?.getD undef = Vi (j : Int) := by rw [← Array.getD_eq_getD_getElem?]; exact hout 9 (by show 9 ∉ [46, 47, 48, 49, 50, 51, 45, 52, 53, 10, 11]; decide)
            refine ⟨rfl, Vi (j : Int), W, ?_, rfl, Ext.refl _⟩
            simp [ev9, execOp, go_sem]
          · refine softV_val 49 _ (by kernel_rfl) rfl rfl ?_
            intro a W hx hpre hout hdep
            have ev47 : a.tmps[47]?.getD undef = .slice (some ⟨lb, lo, none⟩) N c6 := by rw [← Array.getD_eq_getD_getElem?]; exact (hdep ⟨1, .data⟩ (by simp) rfl 47 _ rfl (.inl (by simp))).1
            have ev48 : a.tmps[48]?.getD undef = Vi (j : Int) := by rw [← Array.getD_eq_getD_getElem?]; exact (hdep ⟨2, .data⟩ (by simp) rfl 48 _ rfl (.inl (by simp))).1
            refine ⟨rfl, .pointer (some ⟨lb, lo + j * 4, none⟩), W, ?_, rfl, Ext.refl _⟩
            simp [ev47, ev48, hj1, hj2, execOp, go_sem]
          · refine softV_val 50 _ (by kernel_rfl) rfl rfl ?_
            intro a W hx hpre hout hdep
            have ev49 : a.tmps[49]?.getD undef = .pointer (some ⟨lb, lo + j * 4, none⟩) := by rw [← Array.getD_eq_getD_getElem?]; exact (hdep ⟨3, .data⟩ (by simp) rfl 49 _ rfl (.inl (by simp))).1
            have hE := hx.1 (Ext.refl _)
            have q0 := hE.keep c0
            have q1 := hE.keep c1
            have q2 := hE.keep c2
            have q3 := hE.keep c3
            refine ⟨rfl, env x, W, ?_, rfl, Ext.refl _⟩
            simp [ev49, q0, q1, q2, q3, execOp, go_sem]
          · refine softV_call 51 _ (by kernel_rfl) rfl rfl ?_
            intro a W hx hpre hout hdep
            have ev46 : a.tmps[46]?.getD undef = ixv xv := by rw [← Array.getD_eq_getD_getElem?]; exact (hdep ⟨0, .data⟩ (by simp) rfl 46 _ rfl (.inl (by simp))).1
            have ev50 : a.tmps[50]?.getD undef = env x := by rw [← Array.getD_eq_getD_getElem?]; exact (hdep ⟨4, .data⟩ (by simp) rfl 50 _ rfl (.inl (by simp))).1
            refine ⟨rfl, 12, #[ixv xv, Vi 0, env x], ?_, ?_⟩
            · simp [ev46, ev50, execOp, go_sem]
            · exact (hput.out W (hx.1 (Ext.refl _))).mono (by rintro e W1 ⟨F2, yv, rfl, h1, h2, h3⟩; exact ⟨_, rfl, ⟨F2, yv, rfl, h1, h2⟩, h3⟩)
          · refine softV_val 45 _ (by kernel_rfl) rfl rfl ?_
            intro a W hx hpre hout hdep
            have tl51 := (hdep ⟨5, .data⟩ (by simp) rfl 51 _ rfl (.inl (by simp))).1
            obtain ⟨F2, yv, eyv, hI2, hF2⟩ := tl51
            rw [Array.getD_eq_getD_getElem?] at eyv
            refine ⟨rfl, .tuple #[ixv yv, .nilIface], W, ?_, ⟨F2, yv, rfl, hI2, hF2⟩, Ext.refl _⟩
            simp [eyv, execOp, go_sem]
          · refine softV_val 52 _ (by kernel_rfl) rfl rfl ?_
            intro a W hx hpre hout hdep
            have tl45 := (hdep ⟨6, .data⟩ (by simp) rfl 45 _ rfl (.inl (by simp))).1
            obtain ⟨F2, yv, eyv, hI2, hF2⟩ := tl45
            rw [Array.getD_eq_getD_getElem?] at eyv
            refine ⟨rfl, ixv yv, W, ?_, ⟨F2, yv, rfl, hI2, hF2⟩, Ext.refl _⟩
            simp [eyv, execOp, go_sem]
          · refine softV_val 53 _ (by kernel_rfl) rfl rfl ?_
            intro a W hx hpre hout hdep
            have tl45 := (hdep ⟨6, .data⟩ (by simp) rfl 45 _ rfl (.inl (by simp))).1
            obtain ⟨F2, yv, eyv, hI2, hF2⟩ := tl45
            rw [Array.getD_eq_getD_getElem?] at eyv
            refine ⟨rfl, .nilIface, W, ?_, rfl, Ext.refl _⟩
            simp [eyv, execOp, go_sem]
          · refine softV_val 10 _ (by kernel_rfl) rfl rfl ?_
            intro a W hx hpre hout hdep
            refine ⟨rfl, Vp W.heap.size, _, ?_, ⟨_, rfl, by have := (hx.1 (Ext.refl _)).size; omega, heap_alloc_new W _⟩, (Ext.refl W).alloc _⟩
            simp [execOp, go_sem]
          · rw [if_pos (by rfl)]
            refine softD_none 11 (by kernel_rfl) rfl rfl ?_
            intro a W hx hpre hout hdep
            have tl10 := (hdep ⟨9, .data⟩ (by simp) rfl 10 _ rfl).1
            have tl52 := (hdep ⟨7, .data⟩ (by simp) rfl 52 _ rfl).1
            obtain ⟨qb, eqb, hqb, hzb⟩ := tl10
            obtain ⟨F2, yv, eyv, hI2, hF2⟩ := tl52
            have eqb0 := eqb
            rw [Array.getD_eq_getD_getElem?] at eqb eyv
            have hX := hx.1 (Ext.refl _)
            have kc0 := cell_of_row W qb 0 _ _ _ hzb
            have fc0 := frozen_of_row W qb 0 _ _ hzb
            have kc1 := cell_of_row W qb 1 _ _ _ hzb
            have fc1 := frozen_of_row W qb 1 _ _ hzb
            have kc2 := cell_of_row W qb 2 _ _ _ hzb
            have fc2 := frozen_of_row W qb 2 _ _ hzb
            have kc3 := cell_of_row W qb 3 _ _ _ hzb
            have fc3 := frozen_of_row W qb 3 _ _ hzb
            have kc4 := cell_of_row W qb 4 _ _ _ hzb
            have fc4 := frozen_of_row W qb 4 _ _ hzb
            have kc5 := cell_of_row W qb 5 _ _ _ hzb
            have fc5 := frozen_of_row W qb 5 _ _ hzb
            have kc6 := cell_of_row W qb 6 _ _ _ hzb
            have fc6 := frozen_of_row W qb 6 _ _ hzb
            have kc7 := cell_of_row W qb 7 _ _ _ hzb
            have fc7 := frozen_of_row W qb 7 _ _ hzb
            have hx4 : Ext wr W → Ext wr (((((((((W.setCell ⟨qb, 0, none⟩ (.slice yv.A yv.n yv.c)).setCell ⟨qb, 1, none⟩ (.pointer yv.l)).setCell ⟨qb, 2, none⟩ (.pointer yv.r)).setCell ⟨qb, 3, none⟩ (Vi yv.h)).setCell ⟨qb, 4, none⟩ (Vi yv.m)).setCell ⟨qb, 5, none⟩ (Vi yv.s)).setCell ⟨qb, 6, none⟩ (Vq yv.lo)).setCell ⟨qb, 7, none⟩ (Vq yv.hi))) := fun h => Ext.st8 h (by omega) (.slice yv.A yv.n yv.c) (.pointer yv.l) (.pointer yv.r) (Vi yv.h) (Vi yv.m) (Vi yv.s) (Vq yv.lo) (Vq yv.hi)
            have hfr := fun (s : Nat) (hs : s ≠ qb) => st8_other (w := W) hs (.slice yv.A yv.n yv.c) (.pointer yv.l) (.pointer yv.r) (Vi yv.h) (Vi yv.m) (Vi yv.s) (Vq yv.lo) (Vq yv.hi)
            have hst : ∀ (F : Nat → Prop) (v : Value) (l : List En), Ix F W v l → Ix (fun b => F b ∧ b ≠ qb) (((((((((W.setCell ⟨qb, 0, none⟩ (.slice yv.A yv.n yv.c)).setCell ⟨qb, 1, none⟩ (.pointer yv.l)).setCell ⟨qb, 2, none⟩ (.pointer yv.r)).setCell ⟨qb, 3, none⟩ (Vi yv.h)).setCell ⟨qb, 4, none⟩ (Vi yv.m)).setCell ⟨qb, 5, none⟩ (Vi yv.s)).setCell ⟨qb, 6, none⟩ (Vq yv.lo)).setCell ⟨qb, 7, none⟩ (Vq yv.hi))) v l := fun F v l hI => ix_w.frame (hI.avoid hzb) (fun b hb => hfr b hb.2)
            refine ⟨rfl, ((((((((W.setCell ⟨qb, 0, none⟩ (.slice yv.A yv.n yv.c)).setCell ⟨qb, 1, none⟩ (.pointer yv.l)).setCell ⟨qb, 2, none⟩ (.pointer yv.r)).setCell ⟨qb, 3, none⟩ (Vi yv.h)).setCell ⟨qb, 4, none⟩ (Vi yv.m)).setCell ⟨qb, 5, none⟩ (Vi yv.s)).setCell ⟨qb, 6, none⟩ (Vq yv.lo)).setCell ⟨qb, 7, none⟩ (Vq yv.hi)), ?_, ⟨hx4, fun F v l hI => ⟨_, fun b hb => hb.1, hst F v l hI⟩⟩, qb, _, yv, eqb0, hqb, st8_row hzb (.slice yv.A yv.n yv.c) (.pointer yv.l) (.pointer yv.r) (Vi yv.h) (Vi yv.m) (Vi yv.s) (Vq yv.lo) (Vq yv.hi), hst _ _ _ hI2, fun b hb => hF2 b hb.1⟩
            simp [eqb, eyv, kc0, fc0, kc1, fc1, kc2, fc2, kc3, fc3, kc4, fc4, kc5, fc5, kc6, fc6, kc7, fc7, execOp, go_sem]
        · obtain rfl : N = j := by omega
          have hfull : L.take N = L := List.take_of_length_le (by rw [hN.out]; omega)
          rw [hfull] at hI
          have hpk := Lib.hid (pick_any za N wr (by omega) (by omega) hza)
          go_wp2_with fail
          refine hpk.out.mono ?_
          rintro e W6b ⟨kq, hkq, rfl, hWb⟩
          subst hWb
          clear hpk hfull
          obtain ⟨lb, lo, x, rfl, hp, d⟩ := (hE6.ext hE1).at (k := kq) (by rw [hN.out]; exact hkq)
          have hEl := Lib.hid (hE6.ext hE1)
          obtain ⟨c0, c1, c2, c3⟩ := d
          have hj1 : (0 : Int) ≤ (kq : Int) := by omega
          have hj2 : (kq : Int) < (N : Int) := by omega
          have hRa := apart_reverse L hLa
          have hRx : L.reverse[N - 1 - kq]? = some x := by have := reverse_at hp; rwa [hN.out] at this
          have hRf := find_at hRa hRx
          have hRl : L.reverse.length = N := by rw [List.length_reverse, hN.out]
          have hRw : ∀ y ∈ L.reverse, wfE y := fun y hy => hLw y (List.mem_reverse.1 hy)
          generalize L.reverse = R at *
          obtain ⟨p, hpd⟩ : ∃ p, N - 1 - kq = p := ⟨_, rfl⟩
          rw [hpd] at hRx hRf
          obtain ⟨b0, hb0⟩ : ∃ z, wr.heap.size = z := ⟨_, rfl⟩
          have hhid := Lib.hid (fun W (hx : Ext wr W) => show Calls Try.prog 11 #[ixv xv, idv x.c x.k] W fun e w' => ∃ F2 yv, e = .returned (.tuple #[ixv yv, .nilIface]) ∧ Ix F2 w' (ixv yv) (hideE R x.c x.k) ∧ (∀ b, F2 b → F b ∨ b0 ≤ b) ∧ Ext W w' from
            (ix_w.hide F W (ixv xv) R x.c x.k p (hI.out.ext hx) (by omega) hRa hRw hRf).mono (by
              rintro e w' ⟨F2, v', rfl, h1, h2, h3⟩
              obtain ⟨yv, rfl⟩ := ix_w.shape h1
              exact ⟨F2, yv, rfl, h1, fun b hb => (h2 b hb).imp id (fun h => by have := hx.size; omega), h3⟩))
          obtain ⟨a0, a1, a2, a3, a4, a5, a6, a7⟩ := Bx.row hxb
          have hLx := hide_at hRa hRx
          have hLf : findE (hideE R x.c x.k) x.c x.k = some p := by rw [find_hide]; exact hRf
          have hLl : (hideE R x.c x.k).length = N := by rw [hide_len]; exact hRl
          have hsn : ∀ s ∈ shownE (hideE R x.c x.k), s ≠ p := fun s hs => shown_ne hLx rfl hs
          obtain ⟨L2, hL2⟩ : ∃ z, hideE R x.c x.k = z := ⟨_, rfl⟩
          rw [hL2] at hhid hLx hLf hLl hsn
          replace hLx := Lib.hid hLx
          replace hLf := Lib.hid hLf
          replace hLl := Lib.hid hLl
          replace hRx := Lib.hid hRx
          replace hRf := Lib.hid hRf
          clear hL2 hRa hRw
          have hpfw : wr.heap[pf]? = some (.cells #[.slice none 0 0, .pointer none, .pointer none, Vi 0, Vi 0, Vi 0, Vq 0, Vq 0] 31 (0, 0)) := by rw [hG.block pf hpfB hpfx hpfx]; exact hpf
          have hpp : (p : Int) = (N : Int) - 1 - (kq : Int) := by omega
          go_wp2_with fail
          refine wp_soft_frameV (KR wr) 11 10 13 _ (fun _ => True) (fun v W => ∃ q F2 yv, v = Vp q ∧ b0 ≤ q ∧ W.heap[q]? = some (.cells #[.slice yv.A yv.n yv.c, .pointer yv.l, .pointer yv.r, Vi yv.h, Vi yv.m, Vi yv.s, Vq yv.lo, Vq yv.hi] 31 (0, 0)) ∧ Ix F2 W (ixv yv) L2 ∧ (∀ b, F2 b → F b ∨ b0 ≤ b)) 12 (kp15Tab F b0 px lb lo kq N c6 xv x L2) (by kernel_rfl) (by kernel_rfl) (fun _ _ _ => KR.trans) (fun _ _ => KR.ext) (fun _ _ _ h => h) ?_ (by omega) trivial rfl (by show List.Nodup [75, 76, 77, 78, 79, 80, 81, 74, 82, 83, 13, 14]; decide) (by show ∀ d ∈ [75, 76, 77, 78, 79, 80, 81, 74, 82, 83, 13, 14], d < 186; decide) rfl (by kernel_rfl) (kp15Tab_mono F b0 px lb lo kq N c6 xv x L2 wr) ?_ ⟨?_, ?_, ?_, ?_, ?_, ?_, ?_, ?_, ?_, ?_, ?_, ?_, trivial⟩
          · rintro v a b hab ⟨q, F2, yv, h1, h2, h3, h4, h5⟩
            exact ⟨q, F2, yv, h1, h2, by rw [RowKit.Below.block hab q (Array.getElem?_eq_some_iff.1 h3).1]; exact h3, h4.ext hab, h5⟩
          · intro W f hT hR hPost
            have t0 := hT 0 75 _ rfl (by decide)
            have t1 := hT 1 76 _ rfl (by decide)
            have t2 := hT 2 77 _ rfl (by decide)
            have t3 := hT 3 78 _ rfl (by decide)
            have t4 := hT 4 79 _ rfl (by decide)
            have t5 := hT 5 80 _ rfl (by decide)
            have t6 := hT 6 81 _ rfl (by decide)
            have t7 := hT 7 74 _ rfl (by decide)
            have t8 := hT 8 82 _ rfl (by decide)
            have t9 := hT 9 83 _ rfl (by decide)
            simp only [kp15Tab, List.map_cons, List.map_nil, putAll, List.setIfInBounds_toArray, List.set_cons_zero, List.set_cons_succ, List.drop_succ_cons, List.drop_zero]
            try simp only at t0 t1 t2 t3 t4 t5 t9
            obtain ⟨_, y6, t6, _⟩ := t6
            obtain ⟨_, y7, t7, _⟩ := t7
            obtain ⟨_, y8, t8, _⟩ := t8
            obtain ⟨q, F2, yv, eq, hq0, hqy, hI2, hF2⟩ := hPost
            rw [t0, t1, t2, t3, t4, t5, t9, t6, t7, t8, eq]
            clear t0 t1 t2 t3 t4 t5 t9 t6 t7 t8 eq hT
            have hE5 := hR.1 (Ext.refl _)
            clear a0 a1 a2 a3 a4 a5 a6 a7 hhid
            have hpx5 : W.heap[px]? = some (.cells #[.slice xv.A xv.n xv.c, .pointer xv.l, .pointer xv.r, Vi xv.h, Vi xv.m, Vi xv.s, Vq xv.lo, Vq xv.hi] 31 (0, 0)) := by rw [RowKit.Below.block hE5 px hpxw]; exact hxb
            have hpf5 : W.heap[pf]? = some (.cells #[.slice none 0 0, .pointer none, .pointer none, Vi 0, Vi 0, Vi 0, Vq 0, Vq 0] 31 (0, 0)) := by rw [RowKit.Below.block hE5 pf (Array.getElem?_eq_some_iff.1 hpfw).1]; exact hpfw
            have hI5 := hI.out.ext hE5
            have hfy := (fun Z (hx : Ext W Z) => (ix_r F2).find Z _ L2 x.c x.k p (hI2.ext hx) (by have := hLl.out; omega) hLf.out)
            simp only [hpp] at hfy
            replace hfy := Lib.hid hfy
            have hfx := (fun Z (hx : Ext W Z) => (ix_r F).find Z _ R x.c x.k p (hI5.ext hx) (by omega) hRf.out)
            simp only [hpp] at hfx
            replace hfx := Lib.hid hfx
            have hey := (fun Z (hx : Ext W Z) => (ix_r F2).entry Z _ L2 p { x with g := true } (hI2.ext hx) (by have := hLl.out; omega) hLx.out)
            simp only [hpp] at hey
            replace hey := Lib.hid hey
            have hex := (fun Z (hx : Ext W Z) => (ix_r F).entry Z _ R p x (hI5.ext hx) (by omega) hRx.out)
            simp only [hpp] at hex
            replace hex := Lib.hid hex
            have hl0 := Lib.hid (fun Z => show Calls Try.prog 14 #[zeroX] Z fun e w' => e = .returned (Vi 0) ∧ Ext Z w' from (ix_r (fun _ => False)).len Z zeroX [] (ix_w.zero Z) (by simp))
            have hsh := Lib.hid (fun Z (hx : Ext W Z) => (ix_r F2).shown Z _ L2 (hI2.ext hx) (by have := hLl.out; omega))
            have hat := Lib.hid (fun Z (hx : Ext W Z) (k s : Nat) (hk : (shownE L2)[k]? = some s) => (ix_r F2).at' Z _ L2 k s (hI2.ext hx) (by have := hLl.out; omega) hk)
            have hby := Lib.hid (Bx.row hqy)
            have hbx := Lib.hid (Bx.row hpx5)
            have hbf := Lib.hid (show Bx W pf zX from Bx.row hpf5)
            have hSl : (shownE L2).length ≤ N := by have := shown_len L2 0; have h9 := hLl.out; unfold shownE; omega
            obtain ⟨S, hS⟩ : ∃ S, (shownE L2).length = S := ⟨_, rfl⟩
            rw [hS] at hsh hSl
            replace hS := Lib.hid hS
            have c0 := hE5.keep c0
            have c1 := hE5.keep c1
            have c2 := hE5.keep c2
            have c3 := hE5.keep c3
            have hw1 : IntKind.i64.wrap ((N : Int) - 1) = (N : Int) - 1 := IntWalk.i64_in _ (by omega)
            have hw2 : IntKind.i64.wrap ((N : Int) - 1 - (kq : Int)) = (N : Int) - 1 - (kq : Int) := IntWalk.i64_in _ (by omega)
            have hX5 : Ext w W := (y1.trans hE1).trans hE5
            replace hpp := Lib.hid hpp
            clear hpd hI5 hI2 hI hF2 hqy hpx5 hpf5 hpfw hxb hR hG hE5 hE1 hEl hRl hp
            obtain ⟨a0, a1, a2, a3, a4, a5, a6, a7⟩ := hby.out
            have sa0 := cell_regrown a0
            have sa1 := cell_regrown a1
            have sa2 := cell_regrown a2
            have sa3 := cell_regrown a3
            have sa4 := cell_regrown a4
            have sa5 := cell_regrown a5
            have sa6 := cell_regrown a6
            have sa7 := cell_regrown a7
            have sc0 := cell_regrown c0
            have sc1 := cell_regrown c1
            clear a0 a1 a2 a3 a4 a5 a6 a7
            go_wp2_with fail
            refine wp_region_quiet_below (by kernel_rfl) (by kernel_rfl) ?_
            repeat go_big_quiet_step ((with_reducible exact Calls.in_regrown (hfy.out _ (Ext.regrown _ _ _))))
            refine wpQuiet_nil ?_
            intro _ hw'
            obtain ⟨⟨dq, osq⟩, hw''⟩ := hw'
            subst hw''
            have xr : Ext W (grow (redrawn W dq) osq) := Ext.regrown W dq osq
            generalize grow (redrawn W dq) osq = W1 at *
            have X1 := xr
            clear xr sa0 sa1 sa2 sa3 sa4 sa5 sa6 sa7 sc0 sc1
            obtain ⟨a0, a1, a2, a3, a4, a5, a6, a7⟩ := hbx.out.ext X1
            have c0 := X1.keep c0
            have c1 := X1.keep c1
            have c2 := X1.keep c2
            have c3 := X1.keep c3
            have sa0 := cell_regrown a0
            have sa1 := cell_regrown a1
            have sa2 := cell_regrown a2
            have sa3 := cell_regrown a3
            have sa4 := cell_regrown a4
            have sa5 := cell_regrown a5
            have sa6 := cell_regrown a6
            have sa7 := cell_regrown a7
            have sc0 := cell_regrown c0
            have sc1 := cell_regrown c1
            clear a0 a1 a2 a3 a4 a5 a6 a7 hfy
            go_wp2_with fail
            refine wp_region_quiet_below (by kernel_rfl) (by kernel_rfl) ?_
            repeat go_big_quiet_step ((with_reducible exact Calls.in_regrown (hfx.out _ (X1.trans (Ext.regrown _ _ _)))))
            refine wpQuiet_nil ?_
            intro _ hw'
            obtain ⟨⟨dq, osq⟩, hw''⟩ := hw'
            subst hw''
            have xr : Ext W1 (grow (redrawn W1 dq) osq) := Ext.regrown W1 dq osq
            generalize grow (redrawn W1 dq) osq = W2 at *
            have X2 := X1.trans xr
            have c0 := xr.keep c0
            have c1 := xr.keep c1
            have c2 := xr.keep c2
            have c3 := xr.keep c3
            clear xr sa0 sa1 sa2 sa3 sa4 sa5 sa6 sa7 sc0 sc1
            obtain ⟨a0, a1, a2, a3, a4, a5, a6, a7⟩ := hby.out.ext X2
            clear hfx
            go_wp2_with fail
            refine (hey.out _ X2).mono ?_
            rintro e W3 ⟨rfl, x3⟩
            have X3 := X2.trans x3
            clear a0 a1 a2 a3 a4 a5 a6 a7
            obtain ⟨a0, a1, a2, a3, a4, a5, a6, a7⟩ := hbx.out.ext X3
            obtain ⟨W4, hW4⟩ : ∃ Z, W3.alloc (.cells #[.int .u32 x.c, .int .u32 x.k, .int .i32 x.ch, .bool true] 38) = Z := ⟨_, rfl⟩
            have x4 : Ext W3 W4 := by rw [← hW4]; exact (Ext.refl _).alloc _
            have g3 : W4.cell? ⟨W3.heap.size, 3, none⟩ = some (.bool true) := by rw [← hW4]; simp [go_sem]
            have hs4 : W4.heap.size = W3.heap.size + 1 := by rw [← hW4]; simp
            have X4 := X3.trans x4
            replace hW4 := Lib.hid hW4
            go_wp2_with fail
            rw [hW4.out]
            obtain ⟨gb, hgb⟩ : ∃ z, W3.heap.size = z := ⟨_, rfl⟩
            rw [hgb] at g3 hs4 ⊢
            refine (hex.out _ X4).mono ?_
            rintro e W5 ⟨rfl, x5⟩
            have X5 := X4.trans x5
            clear a0 a1 a2 a3 a4 a5 a6 a7
            obtain ⟨W6, hW6⟩ : ∃ Z, W5.alloc (.cells #[.int .u32 x.c, .int .u32 x.k, .int .i32 x.ch, .bool x.g] 38) = Z := ⟨_, rfl⟩
            have x6 : Ext W5 W6 := by rw [← hW6]; exact (Ext.refl _).alloc _
            have o0 : W6.cell? ⟨W5.heap.size, 0, none⟩ = some (Vu x.c) := by rw [← hW6]; simp [go_sem]
            have o1 : W6.cell? ⟨W5.heap.size, 1, none⟩ = some (Vu x.k) := by rw [← hW6]; simp [go_sem]
            have o2 : W6.cell? ⟨W5.heap.size, 2, none⟩ = some (.int .i32 x.ch) := by rw [← hW6]; simp [go_sem]
            have o3 : W6.cell? ⟨W5.heap.size, 3, none⟩ = some (.bool x.g) := by rw [← hW6]; simp [go_sem]
            have X6 := X5.trans x6
            replace hW6 := Lib.hid hW6
            have x26 := ((x3.trans x4).trans x5).trans x6
            have g3 := (x5.trans x6).keep g3
            have c0 := x26.keep c0
            have c1 := x26.keep c1
            have c2 := x26.keep c2
            have c3 := x26.keep c3
            clear hey hex
            go_wp2_with fail
            rw [hW6.out]
            obtain ⟨ob, hob⟩ : ∃ z, W5.heap.size = z := ⟨_, rfl⟩
            rw [hob] at o0 o1 o2 o3 ⊢
            obtain ⟨a0, a1, a2, a3, a4, a5, a6, a7⟩ := hbf.out.ext X6
            have hnq := en_neq x
            have sa0 := cell_regrown a0
            have sa1 := cell_regrown a1
            have sa2 := cell_regrown a2
            have sa3 := cell_regrown a3
            have sa4 := cell_regrown a4
            have sa5 := cell_regrown a5
            have sa6 := cell_regrown a6
            have sa7 := cell_regrown a7
            have sc0 := cell_regrown c0
            have sc1 := cell_regrown c1
            have sc2 := cell_regrown c2
            have sc3 := cell_regrown c3
            have so0 := cell_regrown o0
            have so1 := cell_regrown o1
            have so2 := cell_regrown o2
            have so3 := cell_regrown o3
            have sg3 := cell_regrown g3
            clear a0 a1 a2 a3 a4 a5 a6 a7 c0 c1 c2 c3 o0 o1 o2 o3 g3
            refine wp_region_quiet_below (by kernel_rfl) (by kernel_rfl) ?_
            repeat go_big_quiet_step ((with_reducible exact Calls.in_regrown (hl0.out _)))
            refine wpQuiet_nil ?_
            intro _ hw'
            obtain ⟨⟨dq, osq⟩, hw''⟩ := hw'
            subst hw''
            have xr : Ext W6 (grow (redrawn W6 dq) osq) := Ext.regrown W6 dq osq
            generalize grow (redrawn W6 dq) osq = W7 at *
            have X7 := X6.trans xr
            clear xr sa0 sa1 sa2 sa3 sa4 sa5 sa6 sa7 sc0 sc1 sc2 sc3 so0 so1 so2 so3 sg3 hnq hw1 hw2
            go_wp2
            go_loopw [23] (fun i Z => ∃ t : Nat, t ≤ S ∧ i = Vi t ∧ Ext W7 Z) (fun i _ => S - (intOf i).toNat)
            case atStart => exact ⟨0, Nat.zero_le _, rfl, Ext.refl _⟩
            case round =>
              obtain ⟨t, ht, rfl, hx⟩ := hrel
              have Xr := X7.trans hx
              obtain ⟨a0, a1, a2, a3, a4, a5, a6, a7⟩ := hby.out.ext Xr
              go_wp2_with fail
              refine (hsh.out _ Xr).mono ?_
              rintro e Z1 ⟨rfl, z1⟩
              clear a0 a1 a2 a3 a4 a5 a6 a7
              have Xr1 := Xr.trans z1
              by_cases hlt2 : t < S
              · obtain ⟨a0, a1, a2, a3, a4, a5, a6, a7⟩ := hby.out.ext Xr1
                obtain ⟨s, hs⟩ : ∃ s, (shownE L2)[t]? = some s := ⟨(shownE L2)[t]'(by rw [hS.out]; exact hlt2), List.getElem?_eq_getElem _⟩
                have hsp := hsn s (List.mem_of_getElem? hs)
                have hbs : ((s : Int) == (N : Int) - 1 - (kq : Int)) = false := by rw [beq_eq_false_iff_ne]; have := hpp.out; omega
                have hc := Lib.hid (hat.out _ Xr1 t s hs)
                clear hs
                go_wp2_with fail
                refine hc.out.mono ?_
                rintro e Z2 ⟨rfl, z2⟩
                go_wp2
                go_roundw
                case rel => exact ⟨t + 1, by omega, by go_num, (hx.trans z1).trans z2⟩
                case measure => simp [intOf]; omega
              · go_wp2
                go_ret
                exact ⟨rfl, hX5.trans Xr1⟩
          · refine softV_val 75 _ (by kernel_rfl) rfl rfl ?_
            intro a W hx hpre hout hdep
            have ev8 : a.tmps[8]?.getD undef = .pointer (some ⟨px, 0, none⟩) := by rw [← Array.getD_eq_getD_getElem?]; exact hout 8 (by show 8 ∉ [75, 76, 77, 78, 79, 80, 81, 74, 82, 83, 13, 14]; decide)
            have hE := hx.1 (Ext.refl _)
            have q0 := hE.keep a0
            have q1 := hE.keep a1
            have q2 := hE.keep a2
            have q3 := hE.keep a3
            have q4 := hE.keep a4
            have q5 := hE.keep a5
            have q6 := hE.keep a6
            have q7 := hE.keep a7
            refine ⟨rfl, ixv xv, W, ?_, rfl, Ext.refl _⟩
            simp [ev8, q0, q1, q2, q3, q4, q5, q6, q7, execOp, go_sem]
          · refine softV_val 76 _ (by kernel_rfl) rfl rfl ?_
            intro a W hx hpre hout hdep
            have ev6 : a.tmps[6]?.getD undef = .slice (some ⟨lb, lo, none⟩) N c6 := by rw [← Array.getD_eq_getD_getElem?]; exact hout 6 (by show 6 ∉ [75, 76, 77, 78, 79, 80, 81, 74, 82, 83, 13, 14]; decide)
            refine ⟨rfl, .slice (some ⟨lb, lo, none⟩) N c6, W, ?_, rfl, Ext.refl _⟩
            simp [ev6, execOp, go_sem]
          · refine softV_val 77 _ (by kernel_rfl) rfl rfl ?_
            intro a W hx hpre hout hdep
            have ev12 : a.tmps[12]?.getD undef = Vi (kq : Int) := by rw [← Array.getD_eq_getD_getElem?]; exact hout 12 (by show 12 ∉ [75, 76, 77, 78, 79, 80, 81, 74, 82, 83, 13, 14]; decide)
            refine ⟨rfl, Vi (kq : Int), W, ?_, rfl, Ext.refl _⟩
            simp [ev12, execOp, go_sem]
          · refine softV_val 78 _ (by kernel_rfl) rfl rfl ?_
            intro a W hx hpre hout hdep
            have ev76 : a.tmps[76]?.getD undef = .slice (some ⟨lb, lo, none⟩) N c6 := by rw [← Array.getD_eq_getD_getElem?]; exact (hdep ⟨1, .data⟩ (by simp) rfl 76 _ rfl (.inl (by simp))).1
            have ev77 : a.tmps[77]?.getD undef = Vi (kq : Int) := by rw [← Array.getD_eq_getD_getElem?]; exact (hdep ⟨2, .data⟩ (by simp) rfl 77 _ rfl (.inl (by simp))).1
            refine ⟨rfl, .pointer (some ⟨lb, lo + kq * 4, none⟩), W, ?_, rfl, Ext.refl _⟩
            simp [ev76, ev77, hj1, hj2, execOp, go_sem]
          · refine softV_val 79 _ (by kernel_rfl) rfl rfl ?_
            intro a W hx hpre hout hdep
            have ev78 : a.tmps[78]?.getD undef = .pointer (some ⟨lb, lo + kq * 4, none⟩) := by rw [← Array.getD_eq_getD_getElem?]; exact (hdep ⟨3, .data⟩ (by simp) rfl 78 _ rfl (.inl (by simp))).1
            refine ⟨rfl, .pointer (some ⟨lb, lo + kq * 4, none⟩), W, ?_, rfl, Ext.refl _⟩
            simp [ev78, execOp, go_sem]
          · refine softV_val 80 _ (by kernel_rfl) rfl rfl ?_
            intro a W hx hpre hout hdep
            have ev79 : a.tmps[79]?.getD undef = .pointer (some ⟨lb, lo + kq * 4, none⟩) := by rw [← Array.getD_eq_getD_getElem?]; exact (hdep ⟨4, .data⟩ (by simp) rfl 79 _ rfl (.inl (by simp))).1
            have hE := hx.1 (Ext.refl _)
            have q0 := hE.keep c0
            have q1 := hE.keep c1
            refine ⟨rfl, idv x.c x.k, W, ?_, rfl, Ext.refl _⟩
            simp [ev79, q0, q1, execOp, go_sem]
          · refine softV_call 81 _ (by kernel_rfl) rfl rfl ?_
            intro a W hx hpre hout hdep
            have ev75 : a.tmps[75]?.getD undef = ixv xv := by rw [← Array.getD_eq_getD_getElem?]; exact (hdep ⟨0, .data⟩ (by simp) rfl 75 _ rfl (.inl (by simp))).1
            have ev80 : a.tmps[80]?.getD undef = idv x.c x.k := by rw [← Array.getD_eq_getD_getElem?]; exact (hdep ⟨5, .data⟩ (by simp) rfl 80 _ rfl (.inl (by simp))).1
            refine ⟨rfl, 11, #[ixv xv, idv x.c x.k], ?_, ?_⟩
            · simp [ev75, ev80, execOp, go_sem]
            · exact (hhid.out W (hx.1 (Ext.refl _))).mono (by rintro e W1 ⟨F2, yv, rfl, h1, h2, h3⟩; exact ⟨_, rfl, ⟨F2, yv, rfl, h1, h2⟩, h3⟩)
          · refine softV_val 74 _ (by kernel_rfl) rfl rfl ?_
            intro a W hx hpre hout hdep
            have tl81 := (hdep ⟨6, .data⟩ (by simp) rfl 81 _ rfl (.inl (by simp))).1
            obtain ⟨F2, yv, eyv, hI2, hF2⟩ := tl81
            rw [Array.getD_eq_getD_getElem?] at eyv
            refine ⟨rfl, .tuple #[ixv yv, .nilIface], W, ?_, ⟨F2, yv, rfl, hI2, hF2⟩, Ext.refl _⟩
            simp [eyv, execOp, go_sem]
          · refine softV_val 82 _ (by kernel_rfl) rfl rfl ?_
            intro a W hx hpre hout hdep
            have tl74 := (hdep ⟨7, .data⟩ (by simp) rfl 74 _ rfl (.inl (by simp))).1
            obtain ⟨F2, yv, eyv, hI2, hF2⟩ := tl74
            rw [Array.getD_eq_getD_getElem?] at eyv
            refine ⟨rfl, ixv yv, W, ?_, ⟨F2, yv, rfl, hI2, hF2⟩, Ext.refl _⟩
            simp [eyv, execOp, go_sem]
          · refine softV_val 83 _ (by kernel_rfl) rfl rfl ?_
            intro a W hx hpre hout hdep
            have tl74 := (hdep ⟨7, .data⟩ (by simp) rfl 74 _ rfl (.inl (by simp))).1
            obtain ⟨F2, yv, eyv, hI2, hF2⟩ := tl74
            rw [Array.getD_eq_getD_getElem?] at eyv
            refine ⟨rfl, .nilIface, W, ?_, rfl, Ext.refl _⟩
            simp [eyv, execOp, go_sem]
          · refine softV_val 13 _ (by kernel_rfl) rfl rfl ?_
            intro a W hx hpre hout hdep
            refine ⟨rfl, Vp W.heap.size, _, ?_, ⟨_, rfl, by have := (hx.1 (Ext.refl _)).size; omega, heap_alloc_new W _⟩, (Ext.refl W).alloc _⟩
            simp [execOp, go_sem]
          · rw [if_pos (by rfl)]
            refine softD_none 14 (by kernel_rfl) rfl rfl ?_
            intro a W hx hpre hout hdep
            have tl13 := (hdep ⟨10, .data⟩ (by simp) rfl 13 _ rfl).1
            have tl82 := (hdep ⟨8, .data⟩ (by simp) rfl 82 _ rfl).1
            obtain ⟨qb, eqb, hqb, hzb⟩ := tl13
            obtain ⟨F2, yv, eyv, hI2, hF2⟩ := tl82
            have eqb0 := eqb
            rw [Array.getD_eq_getD_getElem?] at eqb eyv
            have hX := hx.1 (Ext.refl _)
            have kc0 := cell_of_row W qb 0 _ _ _ hzb
            have fc0 := frozen_of_row W qb 0 _ _ hzb
            have kc1 := cell_of_row W qb 1 _ _ _ hzb
            have fc1 := frozen_of_row W qb 1 _ _ hzb
            have kc2 := cell_of_row W qb 2 _ _ _ hzb
            have fc2 := frozen_of_row W qb 2 _ _ hzb
            have kc3 := cell_of_row W qb 3 _ _ _ hzb
            have fc3 := frozen_of_row W qb 3 _ _ hzb
            have kc4 := cell_of_row W qb 4 _ _ _ hzb
            have fc4 := frozen_of_row W qb 4 _ _ hzb
            have kc5 := cell_of_row W qb 5 _ _ _ hzb
            have fc5 := frozen_of_row W qb 5 _ _ hzb
            have kc6 := cell_of_row W qb 6 _ _ _ hzb
            have fc6 := frozen_of_row W qb 6 _ _ hzb
            have kc7 := cell_of_row W qb 7 _ _ _ hzb
            have fc7 := frozen_of_row W qb 7 _ _ hzb
            have hx4 : Ext wr W → Ext wr (((((((((W.setCell ⟨qb, 0, none⟩ (.slice yv.A yv.n yv.c)).setCell ⟨qb, 1, none⟩ (.pointer yv.l)).setCell ⟨qb, 2, none⟩ (.pointer yv.r)).setCell ⟨qb, 3, none⟩ (Vi yv.h)).setCell ⟨qb, 4, none⟩ (Vi yv.m)).setCell ⟨qb, 5, none⟩ (Vi yv.s)).setCell ⟨qb, 6, none⟩ (Vq yv.lo)).setCell ⟨qb, 7, none⟩ (Vq yv.hi))) := fun h => Ext.st8 h (by omega) (.slice yv.A yv.n yv.c) (.pointer yv.l) (.pointer yv.r) (Vi yv.h) (Vi yv.m) (Vi yv.s) (Vq yv.lo) (Vq yv.hi)
            have hfr := fun (s : Nat) (hs : s ≠ qb) => st8_other (w := W) hs (.slice yv.A yv.n yv.c) (.pointer yv.l) (.pointer yv.r) (Vi yv.h) (Vi yv.m) (Vi yv.s) (Vq yv.lo) (Vq yv.hi)
            have hst : ∀ (F : Nat → Prop) (v : Value) (l : List En), Ix F W v l → Ix (fun b => F b ∧ b ≠ qb) (((((((((W.setCell ⟨qb, 0, none⟩ (.slice yv.A yv.n yv.c)).setCell ⟨qb, 1, none⟩ (.pointer yv.l)).setCell ⟨qb, 2, none⟩ (.pointer yv.r)).setCell ⟨qb, 3, none⟩ (Vi yv.h)).setCell ⟨qb, 4, none⟩ (Vi yv.m)).setCell ⟨qb, 5, none⟩ (Vi yv.s)).setCell ⟨qb, 6, none⟩ (Vq yv.lo)).setCell ⟨qb, 7, none⟩ (Vq yv.hi))) v l := fun F v l hI => ix_w.frame (hI.avoid hzb) (fun b hb => hfr b hb.2)
            refine ⟨rfl, ((((((((W.setCell ⟨qb, 0, none⟩ (.slice yv.A yv.n yv.c)).setCell ⟨qb, 1, none⟩ (.pointer yv.l)).setCell ⟨qb, 2, none⟩ (.pointer yv.r)).setCell ⟨qb, 3, none⟩ (Vi yv.h)).setCell ⟨qb, 4, none⟩ (Vi yv.m)).setCell ⟨qb, 5, none⟩ (Vi yv.s)).setCell ⟨qb, 6, none⟩ (Vq yv.lo)).setCell ⟨qb, 7, none⟩ (Vq yv.hi)), ?_, ⟨hx4, fun F v l hI => ⟨_, fun b hb => hb.1, hst F v l hI⟩⟩, qb, _, yv, eqb0, hqb, st8_row hzb (.slice yv.A yv.n yv.c) (.pointer yv.l) (.pointer yv.r) (Vi yv.h) (Vi yv.m) (Vi yv.s) (Vq yv.lo) (Vq yv.hi), hst _ _ _ hI2, fun b hb => hF2 b hb.1⟩
            simp [eqb, eyv, kc0, fc0, kc1, fc1, kc2, fc2, kc3, fc3, kc4, fc4, kc5, fc5, kc6, fc6, kc7, fc7, execOp, go_sem]

end Go.Proofs.Ytanknhalgoheeaa
