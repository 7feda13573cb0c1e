/-
  Several texts of this seat in one file, each in the namespace again; no claim stands here.
-/
import Derived.Test.YtmpomammieenjaaCV
import Derived.Test.YtmpomammieenjaaCC2
namespace Go.Proofs.Ytmpomammieenjaa
open Go.ChangeShapes Go.WideShapes Go.ChangeAt Go.RowKit Go.Sort
set_option linter.unusedVariables false
set_option linter.unusedSimpArgs false
attribute [local go_sem] World.cell?_alloc_some

def ladI (w0 : World) (q pa sA : Nat) (R0 : Option Addr) (n0 c0 : Nat) (row : Option Nat) (X : List It) (x : It) : SoftTab := [(39, fun z9 W => z9 = .pointer (some ⟨q, 0, none⟩)),
  (40, fun z9 W => z9 = .pointer (some ⟨q, 0, none⟩)),
  (41, fun z9 W => z9 = .pointer (some ⟨q, 0, none⟩)),
  (42, fun z9 W => z9 = .pointer (some ⟨q, 0, none⟩)),
  (43, fun z9 W => z9 = .slice R0 n0 c0),
  (44, fun z9 W => z9 = itv x),
  (45, fun z9 W => ∃ p, z9 = .slice (some ⟨p, 0, none⟩) 1 1 ∧ some p ≠ row ∧ BoxI W p x),
  (46, fun z9 W => OwnI w0 W z9 (X ++ [x]) ∧ (z9.ownBlock = row ∨ ∃ p, z9.ownBlock = some p ∧ sA ≤ p)),
  (47, fun z9 W => z9 = .pointer (some ⟨q, 0, none⟩)),
  (48, fun z9 W => z9 = .pointer (some ⟨q, 0, none⟩))]
theorem ladI_mono (w0 : World) (q pa sA : Nat) (R0 : Option Addr) (n0 c0 : Nat) (row : Option Nat) (X : List It) (x : It) : SoftMonoX (RO row) 7 (ladI w0 q pa sA R0 n0 c0 row X x) := by
  constructor
  · intro j d R hk v W W' h hx
    match j, hk with
    | 0, hk => cases hk; exact h
    | 1, hk => cases hk; exact h
    | 2, hk => cases hk; exact h
    | 3, hk => cases hk; exact h
    | 4, hk => cases hk; exact h
    | 5, hk => cases hk; exact h
    | 6, hk => cases hk; obtain ⟨p, h1, h2, h3⟩ := h; exact ⟨p, h1, h2, (RowKit.Below.block hx p (Array.getElem?_eq_some_iff.1 h3).1).trans h3⟩
    | 7, hk => cases hk; exact ⟨h.1.ext hx, h.2⟩
    | 8, hk => cases hk; exact h
    | 9, hk => cases hk; exact h
    | n + 10, hk => simp [ladI] at hk
  · intro j d R hk hne v W W' h hx
    match j, hk with
    | 0, hk => cases hk; exact h
    | 1, hk => cases hk; exact h
    | 2, hk => cases hk; exact h
    | 3, hk => cases hk; exact h
    | 4, hk => cases hk; exact h
    | 5, hk => cases hk; exact h
    | 6, hk => cases hk; obtain ⟨p, h1, h2, h3⟩ := h; exact ⟨p, h1, h2, (RO.blk hx h3 h2)⟩
    | 7, hk => exact absurd rfl hne
    | 8, hk => cases hk; exact h
    | 9, hk => cases hk; exact h
    | n + 10, hk => simp [ladI] at hk
def ladO (w0 : World) (q pa sA : Nat) (R0 : Option Addr) (n0 c0 : Nat) (row : Option Nat) (X : List I2) (c k : Int) : SoftTab := [(50, fun z9 W => z9 = .pointer (some ⟨q, 0, none⟩)),
  (51, fun z9 W => z9 = .pointer (some ⟨q, 0, none⟩)),
  (52, fun z9 W => z9 = .pointer (some ⟨q, 0, none⟩)),
  (53, fun z9 W => z9 = .pointer (some ⟨q, 1, none⟩)),
  (54, fun z9 W => z9 = .slice R0 n0 c0),
  (55, fun z9 W => z9 = .pointer (some ⟨pa, 0, none⟩)),
  (56, fun z9 W => z9 = .agg #[.int .u32 c, .int .u32 k]),
  (57, fun z9 W => ∃ p, z9 = .slice (some ⟨p, 0, none⟩) 1 1 ∧ some p ≠ row ∧ W.heap[p]? = some (.cells #[.int .u32 c, .int .u32 k] 41 (0, 0))),
  (58, fun z9 W => OwnO w0 W z9 (X ++ [(c, k)]) ∧ (z9.ownBlock = row ∨ ∃ p, z9.ownBlock = some p ∧ sA ≤ p)),
  (59, fun z9 W => z9 = .pointer (some ⟨q, 0, none⟩)),
  (60, fun z9 W => z9 = .pointer (some ⟨q, 1, none⟩))]
theorem ladO_mono (w0 : World) (q pa sA : Nat) (R0 : Option Addr) (n0 c0 : Nat) (row : Option Nat) (X : List I2) (c k : Int) : SoftMonoX (RO row) 8 (ladO w0 q pa sA R0 n0 c0 row X c k) := by
  constructor
  · intro j d R hk v W W' h hx
    match j, hk with
    | 0, hk => cases hk; exact h
    | 1, hk => cases hk; exact h
    | 2, hk => cases hk; exact h
    | 3, hk => cases hk; exact h
    | 4, hk => cases hk; exact h
    | 5, hk => cases hk; exact h
    | 6, hk => cases hk; exact h
    | 7, hk => cases hk; obtain ⟨p, h1, h2, h3⟩ := h; exact ⟨p, h1, h2, (RowKit.Below.block hx p (Array.getElem?_eq_some_iff.1 h3).1).trans h3⟩
    | 8, hk => cases hk; exact ⟨h.1.ext hx, h.2⟩
    | 9, hk => cases hk; exact h
    | 10, hk => cases hk; exact h
    | n + 11, hk => simp [ladO] at hk
  · intro j d R hk hne v W W' h hx
    match j, hk with
    | 0, hk => cases hk; exact h
    | 1, hk => cases hk; exact h
    | 2, hk => cases hk; exact h
    | 3, hk => cases hk; exact h
    | 4, hk => cases hk; exact h
    | 5, hk => cases hk; exact h
    | 6, hk => cases hk; exact h
    | 7, hk => cases hk; obtain ⟨p, h1, h2, h3⟩ := h; exact ⟨p, h1, h2, (RO.blk hx h3 h2)⟩
    | 8, hk => exact absurd rfl hne
    | 9, hk => cases hk; exact h
    | 10, hk => cases hk; exact h
    | n + 11, hk => simp [ladO] at hk

def nxB (w : World) (v v' : Value) : Prop := v'.ownBlock = v.ownBlock ∨ ∃ g, v'.ownBlock = some g ∧ w.heap.size ≤ g
theorem nxB.refl (w : World) (v : Value) : nxB w v v := .inl rfl
theorem nxB.trans {w w1 : World} {v v1 v2 : Value} (h : nxB w v v1) (k : nxB w1 v1 v2) (hs : w.heap.size ≤ w1.heap.size) : nxB w v v2 := by
  rcases k with e | ⟨g, e, hg⟩
  · rcases h with e' | ⟨g, e', hg⟩
    · exact .inl (e.trans e')
    · exact .inr ⟨g, e.trans e', hg⟩
  · exact .inr ⟨g, e, Nat.le_trans hs hg⟩
theorem nxB.of {w w1 : World} {v v' : Value} (h : v'.ownBlock = v.ownBlock ∨ ∃ g, v'.ownBlock = some g ∧ w1.heap.size ≤ g) (hs : w.heap.size ≤ w1.heap.size) : nxB w v v' :=
  h.imp id (fun ⟨g, e, hg⟩ => ⟨g, e, Nat.le_trans hs hg⟩)

def canI (L : List It) (x : It) : Bool := !(decide (x.c = 0) || hasI L (x.c, x.k)) && (decide (x.lc = 0) || hasI L (x.lc, x.lk)) && (decide (x.rc = 0) || hasI L (x.rc, x.rk)) && okB x.ch
theorem canI_is (L : List It) (x : It) : canI L x = (knownX L x && okB x.ch) := by
  unfold canI knownX iid ilf irt
  by_cases h : x.c = 0 <;> cases hasI L (x.c, x.k) <;> simp [h]

set_option maxRecDepth 100000 in
set_option maxHeartbeats 16000000 in
theorem add_ref (w0 w : World) (q : Nat) (va vb : Value) (L : List It) (G : List I2) (x : It) (gone : Bool) (h : RfM w0 w q va vb L G) (hx0 : Ext w0 w) (hb : L.length ≤ 1000) (hb2 : G.length ≤ 1000) :
    Calls Try.prog 12 #[.pointer (some ⟨q, 0, none⟩), itv x, .bool gone] w fun e w' => e = .returned (.bool (canI L x)) ∧ ∃ va' vb', RfM w0 w' q va' vb' (if canI L x then L ++ [x] else L) (if canI L x && gone then G ++ [(x.c, x.k)] else G) ∧ nxB w va va' ∧ nxB w vb vb' ∧ TS (lmB q va vb) w w' := by
  obtain ⟨R, hRc⟩ : ∃ R, canI L x = R := ⟨_, rfl⟩
  rw [hRc]
  obtain ⟨G', hG'⟩ : ∃ G', (if R && gone then G ++ [(x.c, x.k)] else G) = G' := ⟨_, rfl⟩
  rw [hG']
  replace hG' := Lib.hid hG'
  obtain ⟨L', hL'⟩ : ∃ L', (if R then L ++ [x] else L) = L' := ⟨_, rfl⟩
  rw [hL']
  replace hL' := Lib.hid hL'
  have hh1 := Lib.hid (fun (W : World) (hW : Ext w W) => has_ref q L G x.c x.k W (h.read.ext hW) (by omega))
  have hh2 := Lib.hid (fun (W : World) (hW : Ext w W) => has_ref q L G x.lc x.lk W (h.read.ext hW) (by omega))
  have hh3 := Lib.hid (fun (W : World) (hW : Ext w W) => has_ref q L G x.rc x.rk W (h.read.ext hW) (by omega))
  have hh4 := Lib.hid (fun (W : World) => validRef_any x.ch W)
  unfold canI at hRc
  generalize (decide (x.c = 0) || hasI L (x.c, x.k)) = K1 at *
  generalize (decide (x.lc = 0) || hasI L (x.lc, x.lk)) = K2 at *
  generalize (decide (x.rc = 0) || hasI L (x.rc, x.rk)) = K3 at *
  generalize okB x.ch = K4 at *
  have x0 : Ext w (w.alloc (.cells #[.int .u32 x.c, .int .u32 x.k, .int .u32 x.lc, .int .u32 x.lk, .int .u32 x.rc, .int .u32 x.rk, .int .i32 x.ch] 43)) := (Ext.refl _).alloc _
  have bx := BoxI.newL w x
  replace h := Lib.hid h
  replace hx0 := Lib.hid hx0
  go_enter Try.func12, Try.ntmps12
  go_wp2_with fail
  refine (hh1.out _ x0).mono ?_
  rintro e w1 ⟨rfl, x1⟩
  replace bx := bx.ext x1
  replace x0 := x0.trans x1
  obtain ⟨pa, hpa⟩ : ∃ pa, w.heap.size = pa := ⟨_, rfl⟩
  rw [hpa] at bx ⊢
  clear x1 hh1
  obtain ⟨a0, a1, a2, a3, a4, a5, a6⟩ := bx.cells
  simp only [Nat.zero_add] at a0 a1 a2 a3 a4 a5 a6
  go_wp2_with fail
  refine (hh2.out _ x0).mono ?_
  rintro e w2 ⟨rfl, x2⟩
  replace bx := bx.ext x2
  replace x0 := x0.trans x2
  clear x2 hh2 a0 a1 a2 a3 a4 a5 a6
  obtain ⟨a0, a1, a2, a3, a4, a5, a6⟩ := bx.cells
  simp only [Nat.zero_add] at a0 a1 a2 a3 a4 a5 a6
  go_wp2_with fail
  refine (hh3.out _ x0).mono ?_
  rintro e w3 ⟨rfl, x3⟩
  replace bx := bx.ext x3
  replace x0 := x0.trans x3
  clear x3 hh3 a0 a1 a2 a3 a4 a5 a6
  obtain ⟨a0, a1, a2, a3, a4, a5, a6⟩ := bx.cells
  simp only [Nat.zero_add] at a0 a1 a2 a3 a4 a5 a6
  go_wp2_with fail
  refine (hh4.out _).mono ?_
  rintro e w4 ⟨rfl, rfl⟩
  clear hh4
  by_cases hall : (!K1 && K2 && K3 && K4) = true
  · have hRt : R = true := by rw [← hRc]; exact hall
    simp only [Bool.and_eq_true, Bool.not_eq_true'] at hall
    obtain ⟨⟨⟨e1, e2⟩, e3⟩, e4⟩ := hall
    subst e1
    subst e2
    subst e3
    subst e4
    subst hRt
    clear hRc
    replace hL' : Hid (L ++ [x] = L') := Lib.hid (by rw [← hL'.out]; rfl)
    have h2 := Lib.hid (h.out.ext x0)
    replace x0 := Lib.hid x0
    have hpl : lmB q va vb pa → False := fun e => by have := (h.out.low _ e).2; omega
    have hpl0 := Lib.hid hpl
    obtain ⟨R0, c0, hva0, _, _⟩ := h2.out.oi.open
    have n1 := h2.out.cells.1
    obtain ⟨row, hvb⟩ : ∃ row, va.ownBlock = row := ⟨_, rfl⟩
    obtain ⟨n0, hn0⟩ : ∃ n, L.length = n := ⟨_, rfl⟩
    rw [hn0] at hva0
    have hX0 := Lib.hid hn0
    have hown := Lib.hid h2.out.oi
    have hrl := Lib.hid h2.out.oi.lt
    have hqr : some q ≠ row := by rw [← hvb]; exact fun e => h2.out.qa e.symm
    have hpr : some pa ≠ row := by
      rw [← hvb]
      exact fun e => hpl (.inr (.inl e.symm))
    have hlt := Lib.hid (fun (z : Nat) (hz : w3.heap.size ≤ z) => show some z ≠ row by
      rw [← hvb]
      intro e
      have := (hrl.out z e.symm).2
      omega)
    obtain ⟨sA, hsA⟩ : ∃ s, w3.heap.size = s := ⟨_, rfl⟩
    replace hsA := Lib.hid hsA
    have hXl := Lib.hid (show L.length + 1 ≤ 5026338869833 by omega)
    have hBw := Lib.hid (show w0.heap.size ≤ w3.heap.size from (hx0.out.trans x0.out).size)
    subst hva0
    replace hvb := Lib.hid hvb
    replace bx := Lib.hid bx
    generalize hLX : L = X at *
    clear hLX hn0 hpl
    go_wp2_with fail
    refine wp_soft_frameX (RO row) 7 (fun W => OwnI w0 W (.slice R0 n0 c0) X) (fun _ => True) 10 (ladI w0 q pa sA R0 n0 c0 row X x) (by kernel_rfl) (by kernel_rfl) (fun _ _ _ => RO.trans) (fun _ _ => RO.ext) (fun _ _ h hh => hh.ext h) (fun _ _ _ _ => trivial) (by omega) hown.out rfl (by show List.Nodup [39, 40, 41, 42, 43, 44, 45, 46, 47, 48]; decide) (by show ∀ d ∈ [39, 40, 41, 42, 43, 44, 45, 46, 47, 48], d < 61; decide) (ladI_mono w0 q pa sA R0 n0 c0 row X x) ?_ ⟨?_, ?_, ?_, ?_, ?_, ?_, ?_, ?_, ?_, ?_, trivial⟩
    · intro W vs hT hR _
      match vs, hT with
      | [v0, v1, v2, v3, v4, v5, v6, v7, v8, v9], ⟨e0, e1, e2, e3, e4, e5, e6, e7, e8, e9, _⟩ =>
        simp only [ladI, List.map_cons, List.map_nil, List.zip_cons_cons, List.zip_nil_left, putAll, List.setIfInBounds_toArray, List.set_cons_zero, List.set_cons_succ, List.drop_succ_cons, List.drop_zero]
        simp only at e0 e1 e2 e3 e4 e5 e8 e9
        obtain ⟨q6, e6, h6⟩ := e6
        rw [e0, e1, e2, e3, e4, e5, e6, e8, e9]
        clear e0 e1 e2 e3 e4 e5 e6 e8 e9 v0 v1 v2 v3 v4 v5 v6 v8 v9
        obtain ⟨o9, b9⟩ := e7
        obtain ⟨A9, c9, hv9, hc9, _⟩ := o9.open
        rw [List.length_append, List.length_singleton, hX0.out] at hv9 hc9
        subst hv9
        have hm := Lib.hid (h2.out.putI (by rw [hvb.out]; exact hR) o9 (by rw [hvb.out, hsA.out]; exact b9))
        have f1 : W.frozen? ⟨q, 0, none⟩ = false := by
          have := RO.blk hR h2.out.box hqr
          exact frozen_of_row W q 0 _ _ this
        have hnx := Lib.hid (nxB.of (w := w) (w1 := w3) (v := .slice R0 n0 c0) (v' := .slice A9 (n0 + 1) c9) (by rw [hvb.out, hsA.out]; exact b9) x0.out.size)
        have n2 := RO.cell hR n1 hqr
        have hts := Lib.hid ((TS.ext x0.out : TS (lmB q (.slice R0 n0 c0) vb) w w3).trans hm.out.2 (fun _ _ e => e))
        have bb : BoxI (W.setCell ⟨q, 0, none⟩ (.slice A9 (n0 + 1) c9)) pa x := hm.out.2.blk bx.out (fun e => hpl0.out e)
        clear o9 b9 hT hc9 n1 h6 a0 a1 a2 a3 a4 a5 a6
        cases gone with
        | false =>
          replace hG' : Hid (G = G') := Lib.hid (by rw [← hG'.out]; rfl)
          have hfin := Lib.hid (show RfM w0 (W.setCell ⟨q, 0, none⟩ (.slice A9 (n0 + 1) c9)) q (.slice A9 (n0 + 1) c9) vb L' G' from hL'.out ▸ hG'.out ▸ hm.out.1)
          go_wp2
          go_ret
          exact ⟨rfl, _, vb, hfin.out, hnx.out, nxB.refl _ _, hts.out⟩
        | true =>
          replace hG' : Hid (G ++ [(x.c, x.k)] = G') := Lib.hid (by rw [← hG'.out]; rfl)
          go_wp2_with fail
          have hM7 := Lib.hid (hL'.out ▸ hm.out.1)
          have bb7 := Lib.hid bb
          clear hm bb f1 n2 hlt hrl hown hXl hBw hX0 hvb h2 x0 bx hR hL'
          generalize W.setCell ⟨q, 0, none⟩ (.slice A9 (n0 + 1) c9) = w7 at *
          obtain ⟨a0, a1, a2, a3, a4, a5, a6⟩ := bb7.out.cells
          simp only [Nat.zero_add] at a0 a1 a2 a3 a4 a5 a6
          clear a2 a3 a4 a5 a6
          obtain ⟨R0, c0, hvb0, _, _⟩ := hM7.out.oo.open
          have n1 := hM7.out.cells.2.1
          obtain ⟨row, hvb⟩ : ∃ row, vb.ownBlock = row := ⟨_, rfl⟩
          obtain ⟨n0, hn0⟩ : ∃ n, G.length = n := ⟨_, rfl⟩
          rw [hn0] at hvb0
          have hX0 := Lib.hid hn0
          have hown := Lib.hid hM7.out.oo
          have hrl := Lib.hid hM7.out.oo.lt
          have hqr : some q ≠ row := by rw [← hvb]; exact fun e => hM7.out.qb e.symm
          have hpr : some pa ≠ row := by
            rw [← hvb]
            exact fun e => hpl0.out (.inr (.inr e.symm))
          have hlt := Lib.hid (fun (z : Nat) (hz : w7.heap.size ≤ z) => show some z ≠ row by
            rw [← hvb]
            intro e
            have := (hrl.out z e.symm).2
            omega)
          obtain ⟨sA, hsA⟩ : ∃ s, w7.heap.size = s := ⟨_, rfl⟩
          replace hsA := Lib.hid hsA
          have hXl := Lib.hid (show G.length + 1 ≤ 10000000000000 by omega)
          have hBw := Lib.hid (show w0.heap.size ≤ w7.heap.size from Nat.le_trans hx0.out.size hts.out.size)
          subst hvb0
          replace hvb := Lib.hid hvb
          have hvaq := Lib.hid hM7.out.qa
          obtain ⟨c, hcx⟩ : ∃ c, x.c = c := ⟨_, rfl⟩
          obtain ⟨k, hkx⟩ : ∃ k, x.k = k := ⟨_, rfl⟩
          rw [hcx] at a0 hG'
          rw [hkx] at a1 hG'
          replace hcx := Lib.hid hcx
          replace hkx := Lib.hid hkx
          generalize hGX : G = X at *
          clear hGX hn0
          refine wp_soft_frameX (RO row) 8 (fun W => OwnO w0 W (.slice R0 n0 c0) X) (fun _ => True) 11 (ladO w0 q pa sA R0 n0 c0 row X c k) (by kernel_rfl) (by kernel_rfl) (fun _ _ _ => RO.trans) (fun _ _ => RO.ext) (fun _ _ h hh => hh.ext h) (fun _ _ _ _ => trivial) (by omega) hown.out rfl (by show List.Nodup [50, 51, 52, 53, 54, 55, 56, 57, 58, 59, 60]; decide) (by show ∀ d ∈ [50, 51, 52, 53, 54, 55, 56, 57, 58, 59, 60], d < 61; decide) (ladO_mono w0 q pa sA R0 n0 c0 row X c k) ?_ ⟨?_, ?_, ?_, ?_, ?_, ?_, ?_, ?_, ?_, ?_, ?_, trivial⟩
          · intro W vs hT hR _
            match vs, hT with
            | [v0, v1, v2, v3, v4, v5, v6, v7, v8, v9, v10], ⟨e0, e1, e2, e3, e4, e5, e6, e7, e8, e9, e10, _⟩ =>
              simp only [ladO, List.map_cons, List.map_nil, List.zip_cons_cons, List.zip_nil_left, putAll, List.setIfInBounds_toArray, List.set_cons_zero, List.set_cons_succ, List.drop_succ_cons, List.drop_zero]
              simp only at e0 e1 e2 e3 e4 e5 e6 e9 e10
              obtain ⟨q7, e7, h7⟩ := e7
              rw [e0, e1, e2, e3, e4, e5, e6, e7, e9, e10]
              clear e0 e1 e2 e3 e4 e5 e6 e7 e9 e10 v0 v1 v2 v3 v4 v5 v6 v7 v9 v10
              obtain ⟨o9, b9⟩ := e8
              obtain ⟨A9, c9, hv9, hc9, _⟩ := o9.open
              rw [List.length_append, List.length_singleton, hX0.out] at hv9 hc9
              subst hv9
              have hm := hM7.out.putO (by rw [hvb.out]; exact hR) o9 (by rw [hvb.out, hsA.out]; exact b9)
              have f1 : W.frozen? ⟨q, 1, none⟩ = false := by
                have := RO.blk hR hM7.out.box hqr
                exact frozen_of_row W q 1 _ _ this
              have hnx2 := Lib.hid (nxB.of (w := w) (w1 := w7) (v := .slice R0 n0 c0) (v' := .slice A9 (n0 + 1) c9) (by rw [hvb.out, hsA.out]; exact b9) hts.out.size)
              have n2 := RO.cell hR n1 hqr
              have hfin := Lib.hid (show RfM w0 (W.setCell ⟨q, 1, none⟩ (.slice A9 (n0 + 1) c9)) q _ (.slice A9 (n0 + 1) c9) L' G' from hG'.out ▸ hm.1)
              have hts2 := Lib.hid (hts.out.trans hm.2 (fun j hj e => by
                rcases e with e | e | e
                · exact .inl e
                · rcases hnx.out with h9 | ⟨g9, h9, hg9⟩
                  · exact .inr (.inl (by rw [← h9]; exact e))
                  · rw [h9] at e; injection e with e; omega
                · exact .inr (.inr e)))
              clear hm o9 b9 hT hc9 n1 hM7
              go_wp2
              go_ret
              exact ⟨rfl, _, _, hfin.out, hnx.out, hnx2.out, hts2.out⟩
          · rw [if_neg (by decide)]
            refine softP_val 50 _ (by kernel_rfl) rfl rfl ?_
            intro a W hx hout hdep
            have ev0 : a.tmps[0]?.getD undef = .pointer (some ⟨q, 0, none⟩) := by rw [← Array.getD_eq_getD_getElem?]; exact hout 0 (by show 0 ∉ [50, 51, 52, 53, 54, 55, 56, 57, 58, 59, 60]; decide)
            refine ⟨rfl, .pointer (some ⟨q, 0, none⟩), W, ?_, rfl, Ext.refl _⟩
            simp [ev0, execOp, go_sem]
          · rw [if_neg (by decide)]
            refine softP_val 51 _ (by kernel_rfl) rfl rfl ?_
            intro a W hx hout hdep
            have ev0 : a.tmps[0]?.getD undef = .pointer (some ⟨q, 0, none⟩) := by rw [← Array.getD_eq_getD_getElem?]; exact hout 0 (by show 0 ∉ [50, 51, 52, 53, 54, 55, 56, 57, 58, 59, 60]; decide)
            refine ⟨rfl, .pointer (some ⟨q, 0, none⟩), W, ?_, rfl, Ext.refl _⟩
            simp [ev0, execOp, go_sem]
          · rw [if_neg (by decide)]
            refine softP_val 52 _ (by kernel_rfl) rfl rfl ?_
            intro a W hx hout hdep
            have ev51 : a.tmps[51]?.getD undef = .pointer (some ⟨q, 0, none⟩) := by rw [← Array.getD_eq_getD_getElem?]; exact (hdep ⟨1, .data⟩ (by simp) rfl 51 _ rfl).1
            refine ⟨rfl, .pointer (some ⟨q, 0, none⟩), W, ?_, rfl, Ext.refl _⟩
            simp [ev51, execOp, go_sem]
          · rw [if_neg (by decide)]
            refine softP_val 53 _ (by kernel_rfl) rfl rfl ?_
            intro a W hx hout hdep
            have ev52 : a.tmps[52]?.getD undef = .pointer (some ⟨q, 0, none⟩) := by rw [← Array.getD_eq_getD_getElem?]; exact (hdep ⟨2, .data⟩ (by simp) rfl 52 _ rfl).1
            refine ⟨rfl, .pointer (some ⟨q, 1, none⟩), W, ?_, rfl, Ext.refl _⟩
            simp [ev52, execOp, go_sem]
          · rw [if_neg (by decide)]
            refine softP_val 54 _ (by kernel_rfl) rfl rfl ?_
            intro a W hx hout hdep
            have ev53 : a.tmps[53]?.getD undef = .pointer (some ⟨q, 1, none⟩) := by rw [← Array.getD_eq_getD_getElem?]; exact (hdep ⟨3, .data⟩ (by simp) rfl 53 _ rfl).1
            have q0 := RO.cell hx n1 hqr
            refine ⟨rfl, .slice R0 n0 c0, W, ?_, rfl, Ext.refl _⟩
            simp [ev53, q0, execOp, go_sem]
          · rw [if_neg (by decide)]
            refine softP_val 55 _ (by kernel_rfl) rfl rfl ?_
            intro a W hx hout hdep
            have ev4 : a.tmps[4]?.getD undef = .pointer (some ⟨pa, 0, none⟩) := by rw [← Array.getD_eq_getD_getElem?]; exact hout 4 (by show 4 ∉ [50, 51, 52, 53, 54, 55, 56, 57, 58, 59, 60]; decide)
            refine ⟨rfl, .pointer (some ⟨pa, 0, none⟩), W, ?_, rfl, Ext.refl _⟩
            simp [ev4, execOp, go_sem]
          · rw [if_neg (by decide)]
            refine softP_val 56 _ (by kernel_rfl) rfl rfl ?_
            intro a W hx hout hdep
            have ev55 : a.tmps[55]?.getD undef = .pointer (some ⟨pa, 0, none⟩) := by rw [← Array.getD_eq_getD_getElem?]; exact (hdep ⟨5, .data⟩ (by simp) rfl 55 _ rfl).1
            have q0 := RO.cell hx a0 hpr
            have q1 := RO.cell hx a1 hpr
            refine ⟨rfl, .agg #[.int .u32 c, .int .u32 k], W, ?_, rfl, Ext.refl _⟩
            simp [ev55, q0, q1, execOp, go_sem]
          · rw [if_neg (by decide)]
            refine softP_val 57 _ (by kernel_rfl) rfl rfl ?_
            intro a W hx hout hdep
            have ev56 : a.tmps[56]?.getD undef = .agg #[.int .u32 c, .int .u32 k] := by rw [← Array.getD_eq_getD_getElem?]; exact (hdep ⟨6, .data⟩ (by simp) rfl 56 _ rfl).1
            refine ⟨rfl, .slice (some ⟨W.heap.size, 0, none⟩) 1 1, _, ?_, ⟨_, rfl, hlt.out _ (RO.size hx), heap_alloc_new W _⟩, (Ext.refl W).alloc _⟩
            simp [ev56, execOp, go_sem]
          · rw [if_pos rfl]
            refine softX_val 58 _ (by kernel_rfl) rfl rfl ?_
            intro a W hx hpre hout hdep
            have ev54 : a.tmps[54]?.getD undef = .slice R0 n0 c0 := by rw [← Array.getD_eq_getD_getElem?]; exact (hdep ⟨4, .data⟩ (by simp) rfl 54 _ rfl).1
            have tl57 := (hdep ⟨7, .data⟩ (by simp) rfl 57 _ rfl).1
            obtain ⟨p, hq1, hq2, hq3⟩ := tl57
            obtain ⟨v', W1, hr1, hr2, hr3, hr4⟩ := app_O w0 W 36 (.slice R0 n0 c0) X hpre (Nat.le_trans hBw.out (RO.size hx)) (some ⟨p, 0, none⟩) 1 1 [(c, k)] rfl (OdS.box hq3) (by simp only [List.length_cons, List.length_nil]; exact hXl.out)
            rw [hvb.out] at hr3 hr4
            refine ⟨rfl, v', W1, ?_, ⟨hr2, hr4.imp id (fun e => ⟨_, e, Nat.le_trans (Nat.le_of_eq hsA.out.symm) (RO.size hx)⟩)⟩, hr3, trivial⟩
            rw [← Array.getD_eq_getD_getElem?] at ev54
            simp only [execOp, resolve, invoke, builtin, Sem.run_bind, Sem.run_pure, Result.andThen_ok, List.map_toArray, List.map_cons, List.map_nil, Act.eval, ev54, hq1, hr1]
          · rw [if_neg (by decide)]
            refine softP_val 59 _ (by kernel_rfl) rfl rfl ?_
            intro a W hx hout hdep
            have ev50 : a.tmps[50]?.getD undef = .pointer (some ⟨q, 0, none⟩) := by rw [← Array.getD_eq_getD_getElem?]; exact (hdep ⟨0, .data⟩ (by simp) rfl 50 _ rfl).1
            refine ⟨rfl, .pointer (some ⟨q, 0, none⟩), W, ?_, rfl, Ext.refl _⟩
            simp [ev50, execOp, go_sem]
          · rw [if_neg (by decide)]
            refine softP_val 60 _ (by kernel_rfl) rfl rfl ?_
            intro a W hx hout hdep
            have ev59 : a.tmps[59]?.getD undef = .pointer (some ⟨q, 0, none⟩) := by rw [← Array.getD_eq_getD_getElem?]; exact (hdep ⟨9, .data⟩ (by simp) rfl 59 _ rfl).1
            refine ⟨rfl, .pointer (some ⟨q, 1, none⟩), W, ?_, rfl, Ext.refl _⟩
            simp [ev59, execOp, go_sem]
    · rw [if_neg (by decide)]
      refine softP_val 39 _ (by kernel_rfl) rfl rfl ?_
      intro a W hx hout hdep
      have ev0 : a.tmps[0]?.getD undef = .pointer (some ⟨q, 0, none⟩) := by rw [← Array.getD_eq_getD_getElem?]; exact hout 0 (by show 0 ∉ [39, 40, 41, 42, 43, 44, 45, 46, 47, 48]; decide)
      refine ⟨rfl, .pointer (some ⟨q, 0, none⟩), W, ?_, rfl, Ext.refl _⟩
      simp [ev0, execOp, go_sem]
    · rw [if_neg (by decide)]
      refine softP_val 40 _ (by kernel_rfl) rfl rfl ?_
      intro a W hx hout hdep
      have ev0 : a.tmps[0]?.getD undef = .pointer (some ⟨q, 0, none⟩) := by rw [← Array.getD_eq_getD_getElem?]; exact hout 0 (by show 0 ∉ [39, 40, 41, 42, 43, 44, 45, 46, 47, 48]; decide)
      refine ⟨rfl, .pointer (some ⟨q, 0, none⟩), W, ?_, rfl, Ext.refl _⟩
      simp [ev0, execOp, go_sem]
    · rw [if_neg (by decide)]
      refine softP_val 41 _ (by kernel_rfl) rfl rfl ?_
      intro a W hx hout hdep
      have ev40 : a.tmps[40]?.getD undef = .pointer (some ⟨q, 0, none⟩) := by rw [← Array.getD_eq_getD_getElem?]; exact (hdep ⟨1, .data⟩ (by simp) rfl 40 _ rfl).1
      refine ⟨rfl, .pointer (some ⟨q, 0, none⟩), W, ?_, rfl, Ext.refl _⟩
      simp [ev40, execOp, go_sem]
    · rw [if_neg (by decide)]
      refine softP_val 42 _ (by kernel_rfl) rfl rfl ?_
      intro a W hx hout hdep
      have ev41 : a.tmps[41]?.getD undef = .pointer (some ⟨q, 0, none⟩) := by rw [← Array.getD_eq_getD_getElem?]; exact (hdep ⟨2, .data⟩ (by simp) rfl 41 _ rfl).1
      refine ⟨rfl, .pointer (some ⟨q, 0, none⟩), W, ?_, rfl, Ext.refl _⟩
      simp [ev41, execOp, go_sem]
    · rw [if_neg (by decide)]
      refine softP_val 43 _ (by kernel_rfl) rfl rfl ?_
      intro a W hx hout hdep
      have ev42 : a.tmps[42]?.getD undef = .pointer (some ⟨q, 0, none⟩) := by rw [← Array.getD_eq_getD_getElem?]; exact (hdep ⟨3, .data⟩ (by simp) rfl 42 _ rfl).1
      have q0 := RO.cell hx n1 hqr
      refine ⟨rfl, .slice R0 n0 c0, W, ?_, rfl, Ext.refl _⟩
      simp [ev42, q0, execOp, go_sem]
    · rw [if_neg (by decide)]
      refine softP_val 44 _ (by kernel_rfl) rfl rfl ?_
      intro a W hx hout hdep
      have ev4 : a.tmps[4]?.getD undef = .pointer (some ⟨pa, 0, none⟩) := by rw [← Array.getD_eq_getD_getElem?]; exact hout 4 (by show 4 ∉ [39, 40, 41, 42, 43, 44, 45, 46, 47, 48]; decide)
      have q0 := RO.cell hx a0 hpr
      have q1 := RO.cell hx a1 hpr
      have q2 := RO.cell hx a2 hpr
      have q3 := RO.cell hx a3 hpr
      have q4 := RO.cell hx a4 hpr
      have q5 := RO.cell hx a5 hpr
      have q6 := RO.cell hx a6 hpr
      refine ⟨rfl, itv x, W, ?_, rfl, Ext.refl _⟩
      simp [ev4, q0, q1, q2, q3, q4, q5, q6, execOp, go_sem]
    · rw [if_neg (by decide)]
      refine softP_val 45 _ (by kernel_rfl) rfl rfl ?_
      intro a W hx hout hdep
      have ev44 : a.tmps[44]?.getD undef = itv x := by rw [← Array.getD_eq_getD_getElem?]; exact (hdep ⟨5, .data⟩ (by simp) rfl 44 _ rfl).1
      refine ⟨rfl, .slice (some ⟨W.heap.size, 0, none⟩) 1 1, _, ?_, ⟨_, rfl, hlt.out _ (RO.size hx), heap_alloc_new W _⟩, (Ext.refl W).alloc _⟩
      simp [ev44, execOp, go_sem]
    · rw [if_pos rfl]
      refine softX_val 46 _ (by kernel_rfl) rfl rfl ?_
      intro a W hx hpre hout hdep
      have ev43 : a.tmps[43]?.getD undef = .slice R0 n0 c0 := by rw [← Array.getD_eq_getD_getElem?]; exact (hdep ⟨4, .data⟩ (by simp) rfl 43 _ rfl).1
      have tl45 := (hdep ⟨6, .data⟩ (by simp) rfl 45 _ rfl).1
      obtain ⟨p, hq1, hq2, hq3⟩ := tl45
      obtain ⟨v', W1, hr1, hr2, hr3, hr4⟩ := app_I w0 W 35 (.slice R0 n0 c0) X hpre (Nat.le_trans hBw.out (RO.size hx)) (some ⟨p, 0, none⟩) 1 1 [x] rfl (ItS.box hq3) (by simp only [List.length_cons, List.length_nil]; exact hXl.out)
      rw [hvb.out] at hr3 hr4
      refine ⟨rfl, v', W1, ?_, ⟨hr2, hr4.imp id (fun e => ⟨_, e, Nat.le_trans (Nat.le_of_eq hsA.out.symm) (RO.size hx)⟩)⟩, hr3, trivial⟩
      rw [← Array.getD_eq_getD_getElem?] at ev43
      simp only [execOp, resolve, invoke, builtin, Sem.run_bind, Sem.run_pure, Result.andThen_ok, List.map_toArray, List.map_cons, List.map_nil, Act.eval, ev43, hq1, hr1]
    · rw [if_neg (by decide)]
      refine softP_val 47 _ (by kernel_rfl) rfl rfl ?_
      intro a W hx hout hdep
      have ev39 : a.tmps[39]?.getD undef = .pointer (some ⟨q, 0, none⟩) := by rw [← Array.getD_eq_getD_getElem?]; exact (hdep ⟨0, .data⟩ (by simp) rfl 39 _ rfl).1
      refine ⟨rfl, .pointer (some ⟨q, 0, none⟩), W, ?_, rfl, Ext.refl _⟩
      simp [ev39, execOp, go_sem]
    · rw [if_neg (by decide)]
      refine softP_val 48 _ (by kernel_rfl) rfl rfl ?_
      intro a W hx hout hdep
      have ev47 : a.tmps[47]?.getD undef = .pointer (some ⟨q, 0, none⟩) := by rw [← Array.getD_eq_getD_getElem?]; exact (hdep ⟨8, .data⟩ (by simp) rfl 47 _ rfl).1
      refine ⟨rfl, .pointer (some ⟨q, 0, none⟩), W, ?_, rfl, Ext.refl _⟩
      simp [ev47, execOp, go_sem]
  · have hRf : R = false := by rw [← hRc]; simpa using hall
    subst hRf
    have hfin := Lib.hid (show RfM w0 w3 q va vb L' G' ∧ nxB w va va ∧ nxB w vb vb ∧ TS (lmB q va vb) w w3 from ⟨hL'.out ▸ hG'.out ▸ h.out.ext x0, nxB.refl _ _, nxB.refl _ _, TS.ext x0⟩)
    clear hRc
    cases K1 with
    | true =>
      go_wp2
      go_ret
      exact ⟨rfl, va, vb, hfin.out⟩
    | false =>
      cases K2 with
      | false =>
        go_wp2
        go_ret
        exact ⟨rfl, va, vb, hfin.out⟩
      | true =>
        cases K3 with
        | false =>
          go_wp2
          go_ret
          exact ⟨rfl, va, vb, hfin.out⟩
        | true =>
          cases K4 with
          | false =>
            go_wp2
            go_ret
            exact ⟨rfl, va, vb, hfin.out⟩
          | true => exact absurd rfl hall
end Go.Proofs.Ytmpomammieenjaa

namespace Go.Proofs.Ytmpomammieenjaa
open Go.ChangeShapes Go.WideShapes Go.ChangeAt Go.RowKit Go.Sort
set_option linter.unusedVariables false
set_option linter.unusedSimpArgs false
set_option linter.unusedSimpArgs false
attribute [local go_sem] World.cell?_alloc_some

def updA (ad : I2 → Nat) (a : I2) (q : Nat) (b : I2) : Nat := if b = a then q else ad b
theorem updA_same (ad : I2 → Nat) (a : I2) (q : Nat) : updA ad a q a = q := by unfold updA; rw [if_pos rfl]
theorem updA_other {ad : I2 → Nat} {a b : I2} {q : Nat} (h : b ≠ a) : updA ad a q b = ad b := by unfold updA; rw [if_neg h]
theorem NdL.snoc {F G : Nat → Prop} {W : World} {ad : I2 → Nat} {L : List It} (h : NdL F W ad L) {x : It} (hx : knownX L x = true) {q : Nat} (hq : ¬ F q) (hG : ∀ b, F b → G b) (hGq : G q) {far : I2}
    (hc : NC W q x (vAd ad (hgP L x).on) (hgP L x).right (((pth L (hgP L x).on).length + 1 : Nat) : Int) (vAd ad far)) (hfar : RtL L far ∧ ∃ r, pth L (hgP L x).on = pth L far ++ r) : NdL G W (updA ad (iid x) q) (L ++ [x]) := by
  have hno := (knownX_spec hx).2.1
  have hk : knownI (L ++ [x]) = true := by rw [known_snoc, h.kn, hx]; rfl
  have hne : ∀ a, hasI L a = true → a ≠ iid x := fun a ha e => by rw [e, hno] at ha; cases ha
  have hrt : ∀ a, RtL L a → RtL (L ++ [x]) a ∧ pth (L ++ [x]) a = pth L a ∧ vAd (updA ad (iid x) q) a = vAd ad a := by
    rintro a (rfl | ha)
    · exact ⟨.inl rfl, by rw [pth_none (has_root hk 0), pth_none (has_root h.kn 0)], rfl⟩
    · refine ⟨.inr (by rw [has_snoc, ha]; rfl), pth_old ha, ?_⟩
      unfold vAd
      rw [updA_other (hne a ha)]
  have hxc : pth (L ++ [x]) (iid x) = pth L (hgP L x).on ++ [((hgP L x).right, iid x)] := by rw [pth_new hno, newP_eq]
  refine ⟨hk, fun z hz => ?_, fun a b ha hb e => ?_⟩
  · rcases List.mem_append.1 hz with hz | hz
    · have hzh := has_iffI.2 ⟨z, hz, rfl⟩
      obtain ⟨h0, on, far', r, w, h1, h2, h3, h4, h5, h6⟩ := h.at' z hz
      rw [updA_other (hne _ hzh), (hrt _ (.inr hzh)).2.1]
      refine ⟨hG _ h0, on, far', r, w, (hrt _ h1).1, (hrt _ h2).1, by rw [(hrt _ h1).2.1]; exact h3, by rw [(hrt _ h2).2.1]; exact h4, h5, ?_⟩
      rw [(hrt _ h1).2.2, (hrt _ h2).2.2]
      exact h6
    · rw [List.mem_singleton.1 hz]
      have hon := hg_rt hx
      obtain ⟨hf1, r, hf2⟩ := hfar
      rw [updA_same]
      refine ⟨hGq, (hgP L x).on, far, (hgP L x).right, r ++ [((hgP L x).right, iid x)], (hrt _ hon).1, (hrt _ hf1).1, by rw [(hrt _ hon).2.1]; exact hxc, by rw [(hrt _ hf1).2.1, hxc, hf2, List.append_assoc], by simp, ?_⟩
      rw [(hrt _ hon).2.2, (hrt _ hf1).2.2, hxc, List.length_append, List.length_singleton]
      exact hc
  · rw [has_snoc] at ha hb
    have hfa : ∀ a, hasI L a = true → updA ad (iid x) q a ≠ q := fun a ha e => by
      rw [updA_other (hne a ha)] at e
      obtain ⟨z, hz, rfl⟩ := has_iffI.1 ha
      exact hq (e ▸ (h.at' z hz).1)
    by_cases ea : iid x = a
    · by_cases eb : iid x = b
      · rw [← ea, ← eb]
      · have hb' : hasI L b = true := by simpa [eb] using hb
        rw [← ea, updA_same] at e
        exact absurd e.symm (hfa b hb')
    · have ha' : hasI L a = true := by simpa [ea] using ha
      by_cases eb : iid x = b
      · rw [← eb, updA_same] at e
        exact absurd e (hfa a ha')
      · have hb' : hasI L b = true := by simpa [eb] using hb
        rw [updA_other (hne a ha'), updA_other (hne b hb')] at e
        exact h.inj a b ha' hb' e

set_option maxRecDepth 100000 in
set_option maxHeartbeats 8000000 in
theorem LC.placeOf {F : Nat → Prop} {W : World} {y : Lv} {L : List It} {G : List I2} {t : HT} {ad : I2 → Nat} (h : LC F W y L G t ad) (hl : L.length ≤ 900) (x : It) (hx : knownX L x = true) (nn : Nat) (d : Int) (vf : Value) (hc : NC W nn x (vAd ad (hgP L x).on) (hgP L x).right d vf) :
    Calls Try.prog 35 #[lsv y, Vp nn] W (PlS L x W) := by
  have x0 : Ext W (W.alloc (lbox y)) := (Ext.refl W).alloc _
  have bl := BxL.new W y
  have c8 := x0.keep hc.cells.c8
  obtain ⟨b0, b1, b2, b3, b4, b5, b6, b7, b8⟩ := bl.cells
  obtain ⟨rt, hrt⟩ : ∃ rt, (hgP L x).right = rt := ⟨_, rfl⟩
  rw [hrt] at c8
  have hcall : ∀ w1, Ext W w1 → Calls Try.prog (if rt then 59 else 60) #[lsv y, Vp nn] w1 (PlS L x w1) := by
    intro w1 hE
    cases rt with
    | true => exact (h.ext hE).rightPlace hl x hx hrt nn d vf _ (hc.ext hE)
    | false =>
      refine (h.ext hE).leftPlace hl x hx hrt nn d vf _ (hc.ext hE) ?_
      rcases hg_rt hx with e | e
      · obtain ⟨_, _, hlf, hri⟩ := knownX_spec hx
        by_cases hrc : x.rc = 0
        · rw [hgP_st hrc] at hrt
          split at hrt <;> cases hrt
        · by_cases hlc : x.lc = 0
          · rw [hgP_rt hrc hlc]; exact hri.resolve_left hrc
          · rw [hgP_bo hrc hlc] at hrt ⊢
            split at hrt
            · rename_i hb
              rw [if_pos hb]
              exact hri.resolve_left hrc
            · cases hrt
      · exact e
  replace hcall := Lib.hid hcall
  clear h hc hx hrt bl
  have bl2 : True := trivial
  go_enter Try.func35, Try.ntmps35
  cases rt with
  | true =>
    go_wp2_with fail
    refine (hcall.out _ x0).mono ?_
    rintro e w1 ⟨p, rfl, hp, x1⟩
    have hE := Lib.hid (x0.trans x1)
    replace hp := Lib.hid hp
    clear hcall x0 x1 b0 b1 b2 b3 b4 b5 b6 b7 b8 c8
    go_wp2
    go_ret
    exact ⟨p, rfl, hp.out, hE.out⟩
  | false =>
    go_wp2_with fail
    refine (hcall.out _ x0).mono ?_
    rintro e w1 ⟨p, rfl, hp, x1⟩
    have hE := Lib.hid (x0.trans x1)
    replace hp := Lib.hid hp
    clear hcall x0 x1 b0 b1 b2 b3 b4 b5 b6 b7 b8 c8
    go_wp2
    go_ret
    exact ⟨p, rfl, hp.out, hE.out⟩

set_option maxRecDepth 100000 in
set_option maxHeartbeats 16000000 in
theorem LC.addNo0 {F : Nat → Prop} {W : World} {y : Lv} {L : List It} {G : List I2} {t : HT} {ad : I2 → Nat} (h : LC F W y L G t ad) (x : It) (gone : Bool) (e0 : decide (x.c = 0) = true) :
    Calls Try.prog 11 #[lsv y, itv x, .bool gone] W fun e w' => ∃ z : Lv, e = .returned (.tuple #[lsv z, errv 1]) ∧ Ext W w' := by
  have x0 : Ext W (((W.alloc (lbox y)).alloc (icells x)).alloc (lbox zLv)) := (((Ext.refl W).alloc _).alloc _).alloc _
  have bl := ((BxL.new W y).ext ((Ext.refl _).alloc (icells x))).ext ((Ext.refl _).alloc (lbox zLv))
  have bi := (BoxI.newL (W.alloc (lbox y)) x).ext ((Ext.refl _).alloc (lbox zLv))
  have bz := BxL.new ((W.alloc (lbox y)).alloc (icells x)) zLv
  rw [show (W.alloc (lbox y)).heap.size = W.heap.size + 1 by simp] at bi
  rw [show ((W.alloc (lbox y)).alloc (icells x)).heap.size = W.heap.size + 1 + 1 by simp] at bz
  have hpl : W.heap.size ≤ W.heap.size + 1 + 1 := by omega
  have q0 := Lib.hid (fun (w : World) => none_lit (k := x.k) e0 w)
  clear h e0
  obtain ⟨pz, hpz⟩ : ∃ pz, W.heap.size + 1 + 1 = pz := ⟨_, rfl⟩
  obtain ⟨pi, hpi⟩ : ∃ pi, W.heap.size + 1 = pi := ⟨_, rfl⟩
  rw [hpz] at bz hpl
  rw [hpi] at bi
  obtain ⟨b0, b1, b2, b3, b4, b5, b6, b7, b8⟩ := bl.cells
  obtain ⟨i0, i1, i2, i3, i4, i5, i6⟩ := bi.cells
  simp only [Nat.zero_add] at i0 i1 i2 i3 i4 i5 i6
  go_enter Try.func11, Try.ntmps11
  rw [← hpi] at i0 i1 i2 i3 i4 i5 i6
  replace bz := Lib.hid bz
  replace x0 := Lib.hid x0
  replace hpz := Lib.hid hpz
  replace hpi := Lib.hid hpi
  clear bl bi
  go_wp2_with fail
  rw [hpz.out, hpi.out]
  rw [hpi.out] at i0 i1 i2 i3 i4 i5 i6
  refine (q0.out _).mono ?_
  rintro e w0 ⟨rfl, x1⟩
  replace bz := Lib.hid (bz.out.ext x1)
  replace x0 := Lib.hid (x0.out.trans x1)
  clear x1 q0
  clear b0 b1 b2 b3 b4 b5 b6 b7 b8 i0 i1 i2 i3 i4 i5 i6
  obtain ⟨_, _, _, _, _, _, _, _, _⟩ := bz.out.cells
  have f0 := bz.out.thaw 0
  have f1 := bz.out.thaw 1
  have f2 := bz.out.thaw 2
  have f3 := bz.out.thaw 3
  have f4 := bz.out.thaw 4
  have f5 := bz.out.thaw 5
  have f6 := bz.out.thaw 6
  have f7 := bz.out.thaw 7
  have f8 := bz.out.thaw 8
  have hz := Lib.hid (bz.out.put zLv).cells
  clear bz
  go_wp2
  obtain ⟨z0, z1, z2, z3, z4, z5, z6, z7, z8⟩ := hz.out
  exact bodyPost_ret (v := .tuple #[lsv zLv, errv 1]) (by simp [results, Try.results11, go_sem, z0, z1, z2, z3, z4, z5, z6, z7, z8, errv]) rfl ⟨zLv, rfl, ((((((((x0.out.setCell hpl _).setCell hpl _).setCell hpl _).setCell hpl _).setCell hpl _).setCell hpl _).setCell hpl _).setCell hpl _).setCell hpl _⟩

set_option maxRecDepth 100000 in
set_option maxHeartbeats 16000000 in
theorem LC.addNo1 {F : Nat → Prop} {W : World} {y : Lv} {L : List It} {G : List I2} {t : HT} {ad : I2 → Nat} (h : LC F W y L G t ad) (x : It) (gone : Bool) (e0 : decide (x.c = 0) = false) (e1 : hasI L (x.c, x.k) = true) :
    Calls Try.prog 11 #[lsv y, itv x, .bool gone] W fun e w' => ∃ z : Lv, e = .returned (.tuple #[lsv z, errv 1]) ∧ Ext W w' := by
  have x0 : Ext W (((W.alloc (lbox y)).alloc (icells x)).alloc (lbox zLv)) := (((Ext.refl W).alloc _).alloc _).alloc _
  have bl := ((BxL.new W y).ext ((Ext.refl _).alloc (icells x))).ext ((Ext.refl _).alloc (lbox zLv))
  have bi := (BoxI.newL (W.alloc (lbox y)) x).ext ((Ext.refl _).alloc (lbox zLv))
  have bz := BxL.new ((W.alloc (lbox y)).alloc (icells x)) zLv
  rw [show (W.alloc (lbox y)).heap.size = W.heap.size + 1 by simp] at bi
  rw [show ((W.alloc (lbox y)).alloc (icells x)).heap.size = W.heap.size + 1 + 1 by simp] at bz
  have hpl : W.heap.size ≤ W.heap.size + 1 + 1 := by omega
  have q0 := Lib.hid (fun (w : World) => none_lit (k := x.k) e0 w)
  have q1 := Lib.hid (fun w (hw : Ext W w) => (h.ext hw).findIn (c := x.c) (k := x.k) e1)
  obtain ⟨pk, hpk⟩ : ∃ pk, ad (x.c, x.k) = pk := ⟨_, rfl⟩
  rw [hpk] at q1
  clear hpk
  clear h e0 e1
  obtain ⟨pz, hpz⟩ : ∃ pz, W.heap.size + 1 + 1 = pz := ⟨_, rfl⟩
  obtain ⟨pi, hpi⟩ : ∃ pi, W.heap.size + 1 = pi := ⟨_, rfl⟩
  rw [hpz] at bz hpl
  rw [hpi] at bi
  obtain ⟨b0, b1, b2, b3, b4, b5, b6, b7, b8⟩ := bl.cells
  obtain ⟨i0, i1, i2, i3, i4, i5, i6⟩ := bi.cells
  simp only [Nat.zero_add] at i0 i1 i2 i3 i4 i5 i6
  go_enter Try.func11, Try.ntmps11
  rw [← hpi] at i0 i1 i2 i3 i4 i5 i6
  replace bz := Lib.hid bz
  replace x0 := Lib.hid x0
  replace hpz := Lib.hid hpz
  replace hpi := Lib.hid hpi
  clear bl bi
  go_wp2_with fail
  rw [hpz.out, hpi.out]
  rw [hpi.out] at i0 i1 i2 i3 i4 i5 i6
  refine (q0.out _).mono ?_
  rintro e w0 ⟨rfl, x1⟩
  replace b0 := x1.keep b0
  replace b1 := x1.keep b1
  replace b2 := x1.keep b2
  replace b3 := x1.keep b3
  replace b4 := x1.keep b4
  replace b5 := x1.keep b5
  replace b6 := x1.keep b6
  replace b7 := x1.keep b7
  replace b8 := x1.keep b8
  replace i0 := x1.keep i0
  replace i1 := x1.keep i1
  replace i2 := x1.keep i2
  replace i3 := x1.keep i3
  replace i4 := x1.keep i4
  replace i5 := x1.keep i5
  replace i6 := x1.keep i6
  replace bz := Lib.hid (bz.out.ext x1)
  replace x0 := Lib.hid (x0.out.trans x1)
  clear x1 q0
  go_wp2_with fail
  refine (q1.out _ x0.out).mono ?_
  rintro e w1 ⟨rfl, x1⟩
  replace bz := Lib.hid (bz.out.ext x1)
  replace x0 := Lib.hid (x0.out.trans x1)
  clear x1 q1
  clear b0 b1 b2 b3 b4 b5 b6 b7 b8 i0 i1 i2 i3 i4 i5 i6
  obtain ⟨_, _, _, _, _, _, _, _, _⟩ := bz.out.cells
  have f0 := bz.out.thaw 0
  have f1 := bz.out.thaw 1
  have f2 := bz.out.thaw 2
  have f3 := bz.out.thaw 3
  have f4 := bz.out.thaw 4
  have f5 := bz.out.thaw 5
  have f6 := bz.out.thaw 6
  have f7 := bz.out.thaw 7
  have f8 := bz.out.thaw 8
  have hz := Lib.hid (bz.out.put zLv).cells
  clear bz
  go_wp2
  obtain ⟨z0, z1, z2, z3, z4, z5, z6, z7, z8⟩ := hz.out
  exact bodyPost_ret (v := .tuple #[lsv zLv, errv 1]) (by simp [results, Try.results11, go_sem, z0, z1, z2, z3, z4, z5, z6, z7, z8, errv]) rfl ⟨zLv, rfl, ((((((((x0.out.setCell hpl _).setCell hpl _).setCell hpl _).setCell hpl _).setCell hpl _).setCell hpl _).setCell hpl _).setCell hpl _).setCell hpl _⟩

set_option maxRecDepth 100000 in
set_option maxHeartbeats 16000000 in
theorem LC.addNo2 {F : Nat → Prop} {W : World} {y : Lv} {L : List It} {G : List I2} {t : HT} {ad : I2 → Nat} (h : LC F W y L G t ad) (x : It) (gone : Bool) (e0 : decide (x.c = 0) = false) (e1 : hasI L (x.c, x.k) = false) (e2 : (decide (x.lc = 0) || hasI L (x.lc, x.lk)) = false) :
    Calls Try.prog 11 #[lsv y, itv x, .bool gone] W fun e w' => ∃ z : Lv, e = .returned (.tuple #[lsv z, errv 1]) ∧ Ext W w' := by
  have x0 : Ext W (((W.alloc (lbox y)).alloc (icells x)).alloc (lbox zLv)) := (((Ext.refl W).alloc _).alloc _).alloc _
  have bl := ((BxL.new W y).ext ((Ext.refl _).alloc (icells x))).ext ((Ext.refl _).alloc (lbox zLv))
  have bi := (BoxI.newL (W.alloc (lbox y)) x).ext ((Ext.refl _).alloc (lbox zLv))
  have bz := BxL.new ((W.alloc (lbox y)).alloc (icells x)) zLv
  rw [show (W.alloc (lbox y)).heap.size = W.heap.size + 1 by simp] at bi
  rw [show ((W.alloc (lbox y)).alloc (icells x)).heap.size = W.heap.size + 1 + 1 by simp] at bz
  have hpl : W.heap.size ≤ W.heap.size + 1 + 1 := by omega
  have q0 := Lib.hid (fun (w : World) => none_lit (k := x.k) e0 w)
  have q1 := Lib.hid (fun w (hw : Ext W w) => (h.ext hw).findNo (c := x.c) (k := x.k) e1)
  have q2 := Lib.hid (fun w (hw : Ext W w) => (h.ext hw).noneOrHas x.lc x.lk e2)
  clear h e0 e1 e2
  obtain ⟨pz, hpz⟩ : ∃ pz, W.heap.size + 1 + 1 = pz := ⟨_, rfl⟩
  obtain ⟨pi, hpi⟩ : ∃ pi, W.heap.size + 1 = pi := ⟨_, rfl⟩
  rw [hpz] at bz hpl
  rw [hpi] at bi
  obtain ⟨b0, b1, b2, b3, b4, b5, b6, b7, b8⟩ := bl.cells
  obtain ⟨i0, i1, i2, i3, i4, i5, i6⟩ := bi.cells
  simp only [Nat.zero_add] at i0 i1 i2 i3 i4 i5 i6
  go_enter Try.func11, Try.ntmps11
  rw [← hpi] at i0 i1 i2 i3 i4 i5 i6
  replace bz := Lib.hid bz
  replace x0 := Lib.hid x0
  replace hpz := Lib.hid hpz
  replace hpi := Lib.hid hpi
  clear bl bi
  go_wp2_with fail
  rw [hpz.out, hpi.out]
  rw [hpi.out] at i0 i1 i2 i3 i4 i5 i6
  refine (q0.out _).mono ?_
  rintro e w0 ⟨rfl, x1⟩
  replace b0 := x1.keep b0
  replace b1 := x1.keep b1
  replace b2 := x1.keep b2
  replace b3 := x1.keep b3
  replace b4 := x1.keep b4
  replace b5 := x1.keep b5
  replace b6 := x1.keep b6
  replace b7 := x1.keep b7
  replace b8 := x1.keep b8
  replace i0 := x1.keep i0
  replace i1 := x1.keep i1
  replace i2 := x1.keep i2
  replace i3 := x1.keep i3
  replace i4 := x1.keep i4
  replace i5 := x1.keep i5
  replace i6 := x1.keep i6
  replace bz := Lib.hid (bz.out.ext x1)
  replace x0 := Lib.hid (x0.out.trans x1)
  clear x1 q0
  go_wp2_with fail
  refine (q1.out _ x0.out).mono ?_
  rintro e w1 ⟨rfl, x1⟩
  replace b0 := x1.keep b0
  replace b1 := x1.keep b1
  replace b2 := x1.keep b2
  replace b3 := x1.keep b3
  replace b4 := x1.keep b4
  replace b5 := x1.keep b5
  replace b6 := x1.keep b6
  replace b7 := x1.keep b7
  replace b8 := x1.keep b8
  replace i0 := x1.keep i0
  replace i1 := x1.keep i1
  replace i2 := x1.keep i2
  replace i3 := x1.keep i3
  replace i4 := x1.keep i4
  replace i5 := x1.keep i5
  replace i6 := x1.keep i6
  replace bz := Lib.hid (bz.out.ext x1)
  replace x0 := Lib.hid (x0.out.trans x1)
  clear x1 q1
  go_wp2_with fail
  refine (q2.out _ x0.out).mono ?_
  rintro e w2 ⟨rfl, x1⟩
  replace bz := Lib.hid (bz.out.ext x1)
  replace x0 := Lib.hid (x0.out.trans x1)
  clear x1 q2
  clear b0 b1 b2 b3 b4 b5 b6 b7 b8 i0 i1 i2 i3 i4 i5 i6
  obtain ⟨_, _, _, _, _, _, _, _, _⟩ := bz.out.cells
  have f0 := bz.out.thaw 0
  have f1 := bz.out.thaw 1
  have f2 := bz.out.thaw 2
  have f3 := bz.out.thaw 3
  have f4 := bz.out.thaw 4
  have f5 := bz.out.thaw 5
  have f6 := bz.out.thaw 6
  have f7 := bz.out.thaw 7
  have f8 := bz.out.thaw 8
  have hz := Lib.hid (bz.out.put zLv).cells
  clear bz
  go_wp2
  obtain ⟨z0, z1, z2, z3, z4, z5, z6, z7, z8⟩ := hz.out
  exact bodyPost_ret (v := .tuple #[lsv zLv, errv 1]) (by simp [results, Try.results11, go_sem, z0, z1, z2, z3, z4, z5, z6, z7, z8, errv]) rfl ⟨zLv, rfl, ((((((((x0.out.setCell hpl _).setCell hpl _).setCell hpl _).setCell hpl _).setCell hpl _).setCell hpl _).setCell hpl _).setCell hpl _).setCell hpl _⟩

set_option maxRecDepth 100000 in
set_option maxHeartbeats 16000000 in
theorem LC.addNo3 {F : Nat → Prop} {W : World} {y : Lv} {L : List It} {G : List I2} {t : HT} {ad : I2 → Nat} (h : LC F W y L G t ad) (x : It) (gone : Bool) (e0 : decide (x.c = 0) = false) (e1 : hasI L (x.c, x.k) = false) (e2 : (decide (x.lc = 0) || hasI L (x.lc, x.lk)) = true) (e3 : (decide (x.rc = 0) || hasI L (x.rc, x.rk)) = false) :
    Calls Try.prog 11 #[lsv y, itv x, .bool gone] W fun e w' => ∃ z : Lv, e = .returned (.tuple #[lsv z, errv 1]) ∧ Ext W w' := by
  have x0 : Ext W (((W.alloc (lbox y)).alloc (icells x)).alloc (lbox zLv)) := (((Ext.refl W).alloc _).alloc _).alloc _
  have bl := ((BxL.new W y).ext ((Ext.refl _).alloc (icells x))).ext ((Ext.refl _).alloc (lbox zLv))
  have bi := (BoxI.newL (W.alloc (lbox y)) x).ext ((Ext.refl _).alloc (lbox zLv))
  have bz := BxL.new ((W.alloc (lbox y)).alloc (icells x)) zLv
  rw [show (W.alloc (lbox y)).heap.size = W.heap.size + 1 by simp] at bi
  rw [show ((W.alloc (lbox y)).alloc (icells x)).heap.size = W.heap.size + 1 + 1 by simp] at bz
  have hpl : W.heap.size ≤ W.heap.size + 1 + 1 := by omega
  have q0 := Lib.hid (fun (w : World) => none_lit (k := x.k) e0 w)
  have q1 := Lib.hid (fun w (hw : Ext W w) => (h.ext hw).findNo (c := x.c) (k := x.k) e1)
  have q2 := Lib.hid (fun w (hw : Ext W w) => (h.ext hw).noneOrHas x.lc x.lk e2)
  have q3 := Lib.hid (fun w (hw : Ext W w) => (h.ext hw).noneOrHas x.rc x.rk e3)
  clear h e0 e1 e2 e3
  obtain ⟨pz, hpz⟩ : ∃ pz, W.heap.size + 1 + 1 = pz := ⟨_, rfl⟩
  obtain ⟨pi, hpi⟩ : ∃ pi, W.heap.size + 1 = pi := ⟨_, rfl⟩
  rw [hpz] at bz hpl
  rw [hpi] at bi
  obtain ⟨b0, b1, b2, b3, b4, b5, b6, b7, b8⟩ := bl.cells
  obtain ⟨i0, i1, i2, i3, i4, i5, i6⟩ := bi.cells
  simp only [Nat.zero_add] at i0 i1 i2 i3 i4 i5 i6
  go_enter Try.func11, Try.ntmps11
  rw [← hpi] at i0 i1 i2 i3 i4 i5 i6
  replace bz := Lib.hid bz
  replace x0 := Lib.hid x0
  replace hpz := Lib.hid hpz
  replace hpi := Lib.hid hpi
  clear bl bi
  go_wp2_with fail
  rw [hpz.out, hpi.out]
  rw [hpi.out] at i0 i1 i2 i3 i4 i5 i6
  refine (q0.out _).mono ?_
  rintro e w0 ⟨rfl, x1⟩
  replace b0 := x1.keep b0
  replace b1 := x1.keep b1
  replace b2 := x1.keep b2
  replace b3 := x1.keep b3
  replace b4 := x1.keep b4
  replace b5 := x1.keep b5
  replace b6 := x1.keep b6
  replace b7 := x1.keep b7
  replace b8 := x1.keep b8
  replace i0 := x1.keep i0
  replace i1 := x1.keep i1
  replace i2 := x1.keep i2
  replace i3 := x1.keep i3
  replace i4 := x1.keep i4
  replace i5 := x1.keep i5
  replace i6 := x1.keep i6
  replace bz := Lib.hid (bz.out.ext x1)
  replace x0 := Lib.hid (x0.out.trans x1)
  clear x1 q0
  go_wp2_with fail
  refine (q1.out _ x0.out).mono ?_
  rintro e w1 ⟨rfl, x1⟩
  replace b0 := x1.keep b0
  replace b1 := x1.keep b1
  replace b2 := x1.keep b2
  replace b3 := x1.keep b3
  replace b4 := x1.keep b4
  replace b5 := x1.keep b5
  replace b6 := x1.keep b6
  replace b7 := x1.keep b7
  replace b8 := x1.keep b8
  replace i0 := x1.keep i0
  replace i1 := x1.keep i1
  replace i2 := x1.keep i2
  replace i3 := x1.keep i3
  replace i4 := x1.keep i4
  replace i5 := x1.keep i5
  replace i6 := x1.keep i6
  replace bz := Lib.hid (bz.out.ext x1)
  replace x0 := Lib.hid (x0.out.trans x1)
  clear x1 q1
  go_wp2_with fail
  refine (q2.out _ x0.out).mono ?_
  rintro e w2 ⟨rfl, x1⟩
  replace b0 := x1.keep b0
  replace b1 := x1.keep b1
  replace b2 := x1.keep b2
  replace b3 := x1.keep b3
  replace b4 := x1.keep b4
  replace b5 := x1.keep b5
  replace b6 := x1.keep b6
  replace b7 := x1.keep b7
  replace b8 := x1.keep b8
  replace i0 := x1.keep i0
  replace i1 := x1.keep i1
  replace i2 := x1.keep i2
  replace i3 := x1.keep i3
  replace i4 := x1.keep i4
  replace i5 := x1.keep i5
  replace i6 := x1.keep i6
  replace bz := Lib.hid (bz.out.ext x1)
  replace x0 := Lib.hid (x0.out.trans x1)
  clear x1 q2
  go_wp2_with fail
  refine (q3.out _ x0.out).mono ?_
  rintro e w3 ⟨rfl, x1⟩
  replace bz := Lib.hid (bz.out.ext x1)
  replace x0 := Lib.hid (x0.out.trans x1)
  clear x1 q3
  clear b0 b1 b2 b3 b4 b5 b6 b7 b8 i0 i1 i2 i3 i4 i5 i6
  obtain ⟨_, _, _, _, _, _, _, _, _⟩ := bz.out.cells
  have f0 := bz.out.thaw 0
  have f1 := bz.out.thaw 1
  have f2 := bz.out.thaw 2
  have f3 := bz.out.thaw 3
  have f4 := bz.out.thaw 4
  have f5 := bz.out.thaw 5
  have f6 := bz.out.thaw 6
  have f7 := bz.out.thaw 7
  have f8 := bz.out.thaw 8
  have hz := Lib.hid (bz.out.put zLv).cells
  clear bz
  go_wp2
  obtain ⟨z0, z1, z2, z3, z4, z5, z6, z7, z8⟩ := hz.out
  exact bodyPost_ret (v := .tuple #[lsv zLv, errv 1]) (by simp [results, Try.results11, go_sem, z0, z1, z2, z3, z4, z5, z6, z7, z8, errv]) rfl ⟨zLv, rfl, ((((((((x0.out.setCell hpl _).setCell hpl _).setCell hpl _).setCell hpl _).setCell hpl _).setCell hpl _).setCell hpl _).setCell hpl _).setCell hpl _⟩

set_option maxRecDepth 100000 in
set_option maxHeartbeats 16000000 in
theorem LC.addNo4 {F : Nat → Prop} {W : World} {y : Lv} {L : List It} {G : List I2} {t : HT} {ad : I2 → Nat} (h : LC F W y L G t ad) (x : It) (gone : Bool) (e0 : decide (x.c = 0) = false) (e1 : hasI L (x.c, x.k) = false) (e2 : (decide (x.lc = 0) || hasI L (x.lc, x.lk)) = true) (e3 : (decide (x.rc = 0) || hasI L (x.rc, x.rk)) = true) (e4 : okB x.ch = false) :
    Calls Try.prog 11 #[lsv y, itv x, .bool gone] W fun e w' => ∃ z : Lv, e = .returned (.tuple #[lsv z, errv 1]) ∧ Ext W w' := by
  have x0 : Ext W (((W.alloc (lbox y)).alloc (icells x)).alloc (lbox zLv)) := (((Ext.refl W).alloc _).alloc _).alloc _
  have bl := ((BxL.new W y).ext ((Ext.refl _).alloc (icells x))).ext ((Ext.refl _).alloc (lbox zLv))
  have bi := (BoxI.newL (W.alloc (lbox y)) x).ext ((Ext.refl _).alloc (lbox zLv))
  have bz := BxL.new ((W.alloc (lbox y)).alloc (icells x)) zLv
  rw [show (W.alloc (lbox y)).heap.size = W.heap.size + 1 by simp] at bi
  rw [show ((W.alloc (lbox y)).alloc (icells x)).heap.size = W.heap.size + 1 + 1 by simp] at bz
  have hpl : W.heap.size ≤ W.heap.size + 1 + 1 := by omega
  have q0 := Lib.hid (fun (w : World) => none_lit (k := x.k) e0 w)
  have q1 := Lib.hid (fun w (hw : Ext W w) => (h.ext hw).findNo (c := x.c) (k := x.k) e1)
  have q2 := Lib.hid (fun w (hw : Ext W w) => (h.ext hw).noneOrHas x.lc x.lk e2)
  have q3 := Lib.hid (fun w (hw : Ext W w) => (h.ext hw).noneOrHas x.rc x.rk e3)
  have q4 := Lib.hid (fun (w : World) => valid_any x.ch e4 w)
  clear h e0 e1 e2 e3 e4
  obtain ⟨pz, hpz⟩ : ∃ pz, W.heap.size + 1 + 1 = pz := ⟨_, rfl⟩
  obtain ⟨pi, hpi⟩ : ∃ pi, W.heap.size + 1 = pi := ⟨_, rfl⟩
  rw [hpz] at bz hpl
  rw [hpi] at bi
  obtain ⟨b0, b1, b2, b3, b4, b5, b6, b7, b8⟩ := bl.cells
  obtain ⟨i0, i1, i2, i3, i4, i5, i6⟩ := bi.cells
  simp only [Nat.zero_add] at i0 i1 i2 i3 i4 i5 i6
  go_enter Try.func11, Try.ntmps11
  rw [← hpi] at i0 i1 i2 i3 i4 i5 i6
  replace bz := Lib.hid bz
  replace x0 := Lib.hid x0
  replace hpz := Lib.hid hpz
  replace hpi := Lib.hid hpi
  clear bl bi
  go_wp2_with fail
  rw [hpz.out, hpi.out]
  rw [hpi.out] at i0 i1 i2 i3 i4 i5 i6
  refine (q0.out _).mono ?_
  rintro e w0 ⟨rfl, x1⟩
  replace b0 := x1.keep b0
  replace b1 := x1.keep b1
  replace b2 := x1.keep b2
  replace b3 := x1.keep b3
  replace b4 := x1.keep b4
  replace b5 := x1.keep b5
  replace b6 := x1.keep b6
  replace b7 := x1.keep b7
  replace b8 := x1.keep b8
  replace i0 := x1.keep i0
  replace i1 := x1.keep i1
  replace i2 := x1.keep i2
  replace i3 := x1.keep i3
  replace i4 := x1.keep i4
  replace i5 := x1.keep i5
  replace i6 := x1.keep i6
  replace bz := Lib.hid (bz.out.ext x1)
  replace x0 := Lib.hid (x0.out.trans x1)
  clear x1 q0
  go_wp2_with fail
  refine (q1.out _ x0.out).mono ?_
  rintro e w1 ⟨rfl, x1⟩
  replace b0 := x1.keep b0
  replace b1 := x1.keep b1
  replace b2 := x1.keep b2
  replace b3 := x1.keep b3
  replace b4 := x1.keep b4
  replace b5 := x1.keep b5
  replace b6 := x1.keep b6
  replace b7 := x1.keep b7
  replace b8 := x1.keep b8
  replace i0 := x1.keep i0
  replace i1 := x1.keep i1
  replace i2 := x1.keep i2
  replace i3 := x1.keep i3
  replace i4 := x1.keep i4
  replace i5 := x1.keep i5
  replace i6 := x1.keep i6
  replace bz := Lib.hid (bz.out.ext x1)
  replace x0 := Lib.hid (x0.out.trans x1)
  clear x1 q1
  go_wp2_with fail
  refine (q2.out _ x0.out).mono ?_
  rintro e w2 ⟨rfl, x1⟩
  replace b0 := x1.keep b0
  replace b1 := x1.keep b1
  replace b2 := x1.keep b2
  replace b3 := x1.keep b3
  replace b4 := x1.keep b4
  replace b5 := x1.keep b5
  replace b6 := x1.keep b6
  replace b7 := x1.keep b7
  replace b8 := x1.keep b8
  replace i0 := x1.keep i0
  replace i1 := x1.keep i1
  replace i2 := x1.keep i2
  replace i3 := x1.keep i3
  replace i4 := x1.keep i4
  replace i5 := x1.keep i5
  replace i6 := x1.keep i6
  replace bz := Lib.hid (bz.out.ext x1)
  replace x0 := Lib.hid (x0.out.trans x1)
  clear x1 q2
  go_wp2_with fail
  refine (q3.out _ x0.out).mono ?_
  rintro e w3 ⟨rfl, x1⟩
  replace b0 := x1.keep b0
  replace b1 := x1.keep b1
  replace b2 := x1.keep b2
  replace b3 := x1.keep b3
  replace b4 := x1.keep b4
  replace b5 := x1.keep b5
  replace b6 := x1.keep b6
  replace b7 := x1.keep b7
  replace b8 := x1.keep b8
  replace i0 := x1.keep i0
  replace i1 := x1.keep i1
  replace i2 := x1.keep i2
  replace i3 := x1.keep i3
  replace i4 := x1.keep i4
  replace i5 := x1.keep i5
  replace i6 := x1.keep i6
  replace bz := Lib.hid (bz.out.ext x1)
  replace x0 := Lib.hid (x0.out.trans x1)
  clear x1 q3
  go_wp2_with fail
  refine (q4.out _).mono ?_
  rintro e w4 ⟨rfl, x1⟩
  replace bz := Lib.hid (bz.out.ext x1)
  replace x0 := Lib.hid (x0.out.trans x1)
  clear x1 q4
  clear b0 b1 b2 b3 b4 b5 b6 b7 b8 i0 i1 i2 i3 i4 i5 i6
  obtain ⟨_, _, _, _, _, _, _, _, _⟩ := bz.out.cells
  have f0 := bz.out.thaw 0
  have f1 := bz.out.thaw 1
  have f2 := bz.out.thaw 2
  have f3 := bz.out.thaw 3
  have f4 := bz.out.thaw 4
  have f5 := bz.out.thaw 5
  have f6 := bz.out.thaw 6
  have f7 := bz.out.thaw 7
  have f8 := bz.out.thaw 8
  have hz := Lib.hid (bz.out.put zLv).cells
  clear bz
  go_wp2
  obtain ⟨z0, z1, z2, z3, z4, z5, z6, z7, z8⟩ := hz.out
  exact bodyPost_ret (v := .tuple #[lsv zLv, errv 1]) (by simp [results, Try.results11, go_sem, z0, z1, z2, z3, z4, z5, z6, z7, z8, errv]) rfl ⟨zLv, rfl, ((((((((x0.out.setCell hpl _).setCell hpl _).setCell hpl _).setCell hpl _).setCell hpl _).setCell hpl _).setCell hpl _).setCell hpl _).setCell hpl _⟩

theorem LC.addNo {F : Nat → Prop} {W : World} {y : Lv} {L : List It} {G : List I2} {t : HT} {ad : I2 → Nat} (h : LC F W y L G t ad) (x : It) (gone : Bool) (hno : canI L x = false) :
    Calls Try.prog 11 #[lsv y, itv x, .bool gone] W fun e w' => ∃ z : Lv, e = .returned (.tuple #[lsv z, errv 1]) ∧ Ext W w' := by
  unfold canI at hno
  cases e0 : decide (x.c = 0) with
  | true => exact h.addNo0 x gone e0
  | false =>
    cases e1 : hasI L (x.c, x.k) with
    | true => exact h.addNo1 x gone e0 e1
    | false =>
      cases e2 : (decide (x.lc = 0) || hasI L (x.lc, x.lk)) with
      | false => exact h.addNo2 x gone e0 e1 e2
      | true =>
        cases e3 : (decide (x.rc = 0) || hasI L (x.rc, x.rk)) with
        | false => exact h.addNo3 x gone e0 e1 e2 e3
        | true =>
          cases e4 : okB x.ch with
          | false => exact h.addNo4 x gone e0 e1 e2 e3 e4
          | true => rw [e0, e1, e2, e3, e4] at hno; cases hno
end Go.Proofs.Ytmpomammieenjaa
