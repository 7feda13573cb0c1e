/-
  ListPlays' walk; no claim stands here.
-/
import Derived.Deep.DeepCutAuto
import Derived.Test.YtmpomammieenjaaPH2
namespace Go.Proofs.Ytmpomammieenjaa
open Go.ChangeShapes Go.WideShapes Go.ChangeAt Go.RowKit Go.Sort
set_option linter.unusedVariables false
set_option linter.unusedSimpArgs false
attribute [local go_sem] World.cell?_alloc_some

theorem TS.rx {S : Nat → Prop} {p : Nat} {a b c : World} (h : TS S a b) (k : RX p b c) (hp : p < a.heap.size → S p) : TS S a c := h.on k (fun j e hj => by injection e with e; subst e; exact hp hj)
theorem RfM.rx {w0 W W' : World} {q p : Nat} {va vb : Value} {L : List It} {G : List I2} (h : RfM w0 W q va vb L G) (hx : RX p W W') (hp : ¬ lmB q va vb p) : RfM w0 W' q va vb L G :=
  ⟨hx.blk h.box (fun e => hp (.inl e.symm)), h.oi.kept hx (.inr fun e => hp (.inr (.inl e))), h.oo.kept hx (.inr fun e => hp (.inr (.inr e))), h.lq, h.qa, h.qb, h.ab⟩
theorem LsW.ts {Ls : (Nat → Prop) → World → Value → List It → List I2 → Prop} (M : LsW Ls) {F S : Nat → Prop} {W W' : World} {v : Value} {L : List It} {G : List I2} (h : Ls F W v L G) (hx : TS S W W') (hs : ∀ b, F b → ¬ S b) : Ls F W' v L G :=
  M.frame h (fun b hb => hx.block b (M.lt h hb) (hs b hb))
theorem LsW.rx {Ls : (Nat → Prop) → World → Value → List It → List I2 → Prop} (M : LsW Ls) {F : Nat → Prop} {p : Nat} {W W' : World} {v : Value} {L : List It} {G : List I2} (h : Ls F W v L G) (hx : RX p W W') (hs : ∀ b, F b → b ≠ p) : Ls F W' v L G :=
  M.frame h (fun b hb => World.grownBy.block hx b (M.lt h hb) (fun e => hs b hb (by injection e)))
theorem lm_next {q : Nat} {va vb va' vb' : Value} {w : World} {b : Nat} (h : ¬ lmB q va vb b) (n1 : nxB w va va') (n2 : nxB w vb vb') (hb : b < w.heap.size) : ¬ lmB q va' vb' b := by
  rintro (e | e | e)
  · exact h (.inl e)
  · rcases n1 with h1 | ⟨g, h1, hg⟩
    · exact h (.inr (.inl (by rw [← h1]; exact e)))
    · rw [h1] at e; injection e with e; omega
  · rcases n2 with h1 | ⟨g, h1, hg⟩
    · exact h (.inr (.inr (by rw [← h1]; exact e)))
    · rw [h1] at e; injection e with e; omega
theorem BxL.rx {W W' : World} {q p : Nat} {x : Lv} (h : BxL W q x) (hx : RX p W W') (hn : q ≠ p) : BxL W' q x := hx.blk h hn
theorem BxD.rx {W W' : World} {q p : Nat} {x : De} (h : BxD W q x) (hx : RX p W W') (hn : q ≠ p) : BxD W' q x := hx.blk h hn
theorem BxD.ts {W W' : World} {q : Nat} {x : De} {S : Nat → Prop} (h : BxD W q x) (hx : TS S W W') (hn : ¬ S q) : BxD W' q x := hx.blk h hn

structure PcC (Ls : (Nat → Prop) → World → Value → List It → List I2 → Prop) (w0 : World) (p4 q p7 p9 : Nat) (d : De) (xv : Lv) (L : List It) (G : List I2) (F : Nat → Prop) (yv : Lv) (va vb : Value) (L' : List It) (G' : List I2) (W : World) : Prop where
  b4 : BxL W p4 xv
  b9 : BxL W p9 yv
  b7 : BxD W p7 d
  x : Ls F W (lsv xv) L G
  m : RfM w0 W q va vb L' G'
  sx : ∀ b, F b → ¬ lmB q va vb b ∧ b ≠ p4
  s4 : ¬ lmB q va vb p4
  e : Ext w0 W
def PcRel (Ls : (Nat → Prop) → World → Value → List It → List I2 → Prop) (w0 : World) (p4 q p7 p9 i : Nat) (d : De) (xv : Lv) (L : List It) (G : List I2) (v10 v11 : Value) (W : World) : Prop :=
  ∃ (F : Nat → Prop) (yv : Lv) (va vb : Value) (L' : List It) (G' : List I2), PcC Ls w0 p4 q p7 p9 d xv L G F yv va vb L' G' W ∧ L'.length ≤ i + 1 ∧ G'.length ≤ i + 1 ∧
    ((v11 = .bool true ∧ v10 = .nilIface ∧ ∃ F', Ls F' W (lsv yv) L' G' ∧ ∀ b, F' b → ¬ lmB q va vb b ∧ b ≠ p4) ∨ (v11 = .bool false ∧ v10 = errv 1 ∧ L' = L ∧ G' = G))
structure PdC (Ls : (Nat → Prop) → World → Value → List It → List I2 → Prop) (w0 : World) (p4 q p7 p9 : Nat) (d : De) (xv : Lv) (L : List It) (G : List I2) (F : Nat → Prop) (z9 : Lv) (va vb : Value) (W : World) : Prop extends PcC Ls w0 p4 q p7 p9 d xv L G F z9 va vb L G W where
  f9 : ∀ b, F b → b ≠ p9
  s9 : ¬ lmB q va vb p9
  s7 : ¬ lmB q va vb p7
  h49 : p4 ≠ p9
  h79 : p7 ≠ p9
  l9 : w0.heap.size ≤ p9
theorem PdC.ext {Ls : (Nat → Prop) → World → Value → List It → List I2 → Prop} (M : LsW Ls) {w0 W W' : World} {p4 q p7 p9 : Nat} {d : De} {xv : Lv} {L : List It} {G : List I2} {F : Nat → Prop} {z9 : Lv} {va vb : Value} (h : PdC Ls w0 p4 q p7 p9 d xv L G F z9 va vb W) (hx : Ext W W') : PdC Ls w0 p4 q p7 p9 d xv L G F z9 va vb W' :=
  { b4 := h.b4.ext hx, b9 := h.b9.ext hx, b7 := h.b7.ext hx, x := M.ext h.x hx, m := h.m.ext hx, sx := h.sx, s4 := h.s4, e := h.e.trans hx, f9 := h.f9, s9 := h.s9, s7 := h.s7, h49 := h.h49, h79 := h.h79, l9 := h.l9 }
theorem PdC.put {Ls : (Nat → Prop) → World → Value → List It → List I2 → Prop} (M : LsW Ls) {w0 W : World} {p4 q p7 p9 : Nat} {d : De} {xv : Lv} {L : List It} {G : List I2} {F : Nat → Prop} {z9 : Lv} {va vb : Value} (h : PdC Ls w0 p4 q p7 p9 d xv L G F z9 va vb W) (yv : Lv) : PdC Ls w0 p4 q p7 p9 d xv L G F yv va vb (putL W p9 yv) :=
  { b4 := h.b4.rx (putL_rx W p9 yv) h.h49, b9 := h.b9.put yv, b7 := h.b7.rx (putL_rx W p9 yv) h.h79, x := M.rx h.x (putL_rx W p9 yv) h.f9, m := h.m.rx (putL_rx W p9 yv) h.s9, sx := h.sx, s4 := h.s4, e := RX.down h.e h.l9 (putL_rx W p9 yv), f9 := h.f9, s9 := h.s9, s7 := h.s7, h49 := h.h49, h79 := h.h79, l9 := h.l9 }
theorem PdC.deed {Ls : (Nat → Prop) → World → Value → List It → List I2 → Prop} (M : LsW Ls) {w0 W W' : World} {p4 q p7 p9 : Nat} {d : De} {xv : Lv} {L L' : List It} {G G' : List I2} {F : Nat → Prop} {yv : Lv} {va vb va' vb' : Value} (h : PdC Ls w0 p4 q p7 p9 d xv L G F yv va vb W)
    (hm : RfM w0 W' q va' vb' L' G') (n1 : nxB W va va') (n2 : nxB W vb vb') (ht : TS (lmB q va vb) W W') : PcC Ls w0 p4 q p7 p9 d xv L G F yv va' vb' L' G' W' :=
  { b4 := h.b4.ts ht h.s4, b9 := h.b9.ts ht h.s9, b7 := h.b7.ts ht h.s7, x := M.ts h.x ht (fun b hb => (h.sx b hb).1), m := hm, sx := fun b hb => ⟨lm_next (h.sx b hb).1 n1 n2 (M.lt h.x hb), (h.sx b hb).2⟩, s4 := lm_next h.s4 n1 n2 h.b4.lt, e := ht.down h.e (fun k hk => (h.m.low k hk).1) }
theorem PdC.next {Ls : (Nat → Prop) → World → Value → List It → List I2 → Prop} (M : LsW Ls) {w0 W W1 W' : World} {p4 q p7 p9 : Nat} {d : De} {xv yv z9 : Lv} {L L' : List It} {G G' : List I2} {F F' : Nat → Prop} {va vb va' vb' : Value} (h : PdC Ls w0 p4 q p7 p9 d xv L G F z9 va vb W) (x1 : Ext W W1)
    (hy : Ls F' W1 (lsv yv) L' G') (hF : ∀ b, F' b → F b ∨ W.heap.size ≤ b) (n1 : nxB (putL W1 p9 yv) va va') (n2 : nxB (putL W1 p9 yv) vb vb') (ht : TS (lmB q va vb) (putL W1 p9 yv) W') : Ls F' W' (lsv yv) L' G' ∧ ∀ b, F' b → ¬ lmB q va' vb' b ∧ b ≠ p4 := by
  have h1 : ∀ b, F' b → ¬ lmB q va vb b ∧ b ≠ p4 ∧ b ≠ p9 := fun b hb => by
    rcases hF b hb with e | e
    · exact ⟨(h.sx b e).1, (h.sx b e).2, h.f9 b e⟩
    · refine ⟨fun k => by have := (h.m.low b k).2; omega, fun k => by have := h.b4.lt; omega, fun k => by have := h.b9.lt; omega⟩
  have h2 := M.rx hy (putL_rx W1 p9 yv) (fun b hb => (h1 b hb).2.2)
  exact ⟨M.ts h2 ht (fun b hb => (h1 b hb).1), fun b hb => ⟨lm_next (h1 b hb).1 n1 n2 (M.lt h2 hb), (h1 b hb).2.1⟩⟩

def PlyRel (Ls : (Nat → Prop) → World → Value → List It → List I2 → Prop) (w0 : World) (p4 q n : Nat) (v6 : Value) (W : World) : Prop :=
  ∃ (i : Nat) (F : Nat → Prop) (xv : Lv) (va vb : Value) (L : List It) (G : List I2), v6 = Vi i ∧ i ≤ n ∧ L.length ≤ i ∧ G.length ≤ i ∧ Hid (BxL W p4 xv) ∧ Hid (Ls F W (lsv xv) L G) ∧ Hid (RfM w0 W q va vb L G) ∧ Hid (∀ b, F b → ¬ lmB q va vb b ∧ b ≠ p4) ∧ Hid (¬ lmB q va vb p4) ∧ Hid (Ext w0 W)

set_option maxRecDepth 100000 in
set_option maxHeartbeats 32000000 in
theorem listPlays_walk {Ls : (Nat → Prop) → World → Value → List It → List I2 → Prop} (M : LsW Ls) (D : Option Addr) (n cd : Nat) (ds : List De) (w : World) (hd : DeS w D ds) (hn : ds.length = n) (hwd : ∀ x ∈ ds, wfDe x) :
    Calls Try.prog 3 #[.slice D n cd] w fun e w' => e = .returned (.bool true) ∧ Ext w w' := by
  have hup := Lib.hid (up9_any M w)
  replace hd := Lib.hid hd
  replace hn := Lib.hid hn
  go_enter Try.func3, Try.ntmps3
  go_wp2_with fail
  refine hup.out.mono ?_
  rintro e w0 ⟨rfl, x0⟩
  by_cases h40 : 40 < n
  · go_wp2
    go_ret
    exact ⟨rfl, x0⟩
  · have hd0 := Lib.hid (hd.out.ext x0)
    have bz : BxL (w0.alloc (.cells #[.slice none 0 0, .pointer none, .pointer none, Vi 0, Vi 0, Vi 0, Vq 0, Vq 0, .pointer none] 33)) w0.heap.size zLv := BxL.new w0 zLv
    have xa : Ext w0 (w0.alloc (.cells #[.slice none 0 0, .pointer none, .pointer none, Vi 0, Vi 0, Vi 0, Vq 0, Vq 0, .pointer none] 33)) := (Ext.refl _).alloc _
    have bm : ((w0.alloc (.cells #[.slice none 0 0, .pointer none, .pointer none, Vi 0, Vi 0, Vi 0, Vq 0, Vq 0, .pointer none] 33)).alloc (.cells #[.slice none 0 0, .slice none 0 0] 38)).heap[w0.heap.size + 1]? = some (.cells #[.slice none 0 0, .slice none 0 0] 38 (0, 0)) := by
      have := heap_alloc_new (w0.alloc (.cells #[.slice none 0 0, .pointer none, .pointer none, Vi 0, Vi 0, Vi 0, Vq 0, Vq 0, .pointer none] 33)) (.cells #[.slice none 0 0, .slice none 0 0] 38)
      rwa [show (w0.alloc (.cells #[.slice none 0 0, .pointer none, .pointer none, Vi 0, Vi 0, Vi 0, Vq 0, Vq 0, .pointer none] 33)).heap.size = w0.heap.size + 1 by simp] at this
    have xb : Ext (w0.alloc (.cells #[.slice none 0 0, .pointer none, .pointer none, Vi 0, Vi 0, Vi 0, Vq 0, Vq 0, .pointer none] 33)) ((w0.alloc (.cells #[.slice none 0 0, .pointer none, .pointer none, Vi 0, Vi 0, Vi 0, Vq 0, Vq 0, .pointer none] 33)).alloc (.cells #[.slice none 0 0, .slice none 0 0] 38)) := (Ext.refl _).alloc _
    have hz := M.zero ((w0.alloc (.cells #[.slice none 0 0, .pointer none, .pointer none, Vi 0, Vi 0, Vi 0, Vq 0, Vq 0, .pointer none] 33)).alloc (.cells #[.slice none 0 0, .slice none 0 0] 38))
    have h0 : Hid (PlyRel Ls w0 w0.heap.size (w0.heap.size + 1) n (Vi 0) ((w0.alloc (.cells #[.slice none 0 0, .pointer none, .pointer none, Vi 0, Vi 0, Vi 0, Vq 0, Vq 0, .pointer none] 33)).alloc (.cells #[.slice none 0 0, .slice none 0 0] 38))) := Lib.hid
      ⟨0, _, zLv, .slice none 0 0, .slice none 0 0, [], [], rfl, Nat.zero_le _, Nat.le_refl _, Nat.le_refl _, Lib.hid (bz.ext xb), Lib.hid hz, Lib.hid ⟨bm, OwnI.nil _ _, OwnO.nil _ _, by omega, by simp [Value.ownBlock], by simp [Value.ownBlock], .inl rfl⟩,
        Lib.hid (fun b hb => hb.elim), Lib.hid (by rintro (e | e | e) <;> simp [Value.ownBlock] at e), Lib.hid (xa.trans xb)⟩
    clear bz bm xa xb hz hup hd
    go_wp2_with fail
    generalize (w0.alloc (.cells #[.slice none 0 0, .pointer none, .pointer none, Vi 0, Vi 0, Vi 0, Vq 0, Vq 0, .pointer none] 33)).alloc (.cells #[.slice none 0 0, .slice none 0 0] 38) = wb at *
    obtain ⟨q, hq⟩ : ∃ q, w0.heap.size + 1 = q := ⟨_, rfl⟩
    obtain ⟨p4, hp4⟩ : ∃ p, w0.heap.size = p := ⟨_, rfl⟩
    rw [hq] at h0 ⊢
    rw [hp4] at h0 ⊢
    have hlq : w0.heap.size ≤ q := by omega
    have hl4 : w0.heap.size ≤ p4 := by omega
    clear hq hp4
    go_loopw [6] (fun i W => PlyRel Ls w0 p4 q n i W) (fun i _ => n - (intOf i).toNat)
    case atStart => exact h0.out
    case round =>
      clear h0
      obtain ⟨i, F, xv, va, vb, L, G, rfl, hi, hL, hG, b4, hx, hm, hs, h4, he⟩ := hrel
      by_cases hlt : i < n
      · obtain ⟨bd, od, d, rfl, hp, dc⟩ := (hd0.out.ext he.out).at (k := i) (by rw [hn.out]; exact hlt)
        have hwf := Lib.hid (hwd d (List.mem_of_getElem? hp))
        obtain ⟨c0, c1, c2, c3, c4, c5, c6, c7, c8⟩ := dc
        have hi1 : (0 : Int) ≤ (i : Int) := by omega
        have hi2 : (i : Int) < (n : Int) := by omega
        have htx := Lib.hid (fun W (hW : Ext wr W) => M.text F W (lsv xv) L G (M.ext hx.out hW) (by omega) (by omega))
        have b7 := BxD.new wr d
        have x1 : Ext wr (wr.alloc (.cells #[.int .i64 d.what, .int .u32 d.i.c, .int .u32 d.i.k, .int .u32 d.i.lc, .int .u32 d.i.lk, .int .u32 d.i.rc, .int .u32 d.i.rk, .int .i32 d.i.ch, .bool d.g] 45)) := (Ext.refl _).alloc _
        obtain ⟨a0, a1, a2, a3, a4, a5, a6, a7, a8⟩ := (b4.out.ext x1).cells
        have h47 : p4 < wr.heap.size := b4.out.lt
        clear hp
        go_wp2_with fail
        generalize wr.alloc (.cells #[.int .i64 d.what, .int .u32 d.i.c, .int .u32 d.i.k, .int .u32 d.i.lc, .int .u32 d.i.lk, .int .u32 d.i.rc, .int .u32 d.i.rk, .int .i32 d.i.ch, .bool d.g] 45) = w1 at *
        refine (htx.out _ x1).mono ?_
        rintro e w2 ⟨rfl, x2⟩
        have hT := Lib.hid (show textE (entL L G) = textE (entL L G) from rfl)
        have x12 := x1.trans x2
        have xc : Ext w2 (w2.alloc (.cells #[.slice none 0 0, .pointer none, .pointer none, Vi 0, Vi 0, Vi 0, Vq 0, Vq 0, .pointer none] 33)) := (Ext.refl _).alloc _
        have b9 : BxL (w2.alloc (.cells #[.slice none 0 0, .pointer none, .pointer none, Vi 0, Vi 0, Vi 0, Vq 0, Vq 0, .pointer none] 33)) w2.heap.size zLv := BxL.new w2 zLv
        have x13 := x12.trans xc
        have b72 := b7.ext x2
        have h79 : wr.heap.size < w2.heap.size := b72.lt
        have hl7 : w0.heap.size ≤ wr.heap.size := he.out.size
        have hlm := fun k hk => (hm.out.low k hk).2
        have hP : Hid (PdC Ls w0 p4 q wr.heap.size w2.heap.size d xv L G F zLv va vb (w2.alloc (.cells #[.slice none 0 0, .pointer none, .pointer none, Vi 0, Vi 0, Vi 0, Vq 0, Vq 0, .pointer none] 33))) := Lib.hid
          { b4 := b4.out.ext x13, b9 := b9, b7 := b72.ext xc, x := M.ext hx.out x13, m := hm.out.ext x13, sx := hs.out, s4 := h4.out, e := he.out.trans x13
            f9 := fun b hb => by have := M.lt hx.out hb; omega
            s9 := fun k => by have := hlm _ k; omega
            s7 := fun k => by have := hlm _ k; omega
            h49 := by omega
            h79 := by omega
            l9 := by omega }
        have hpk : ∀ W, Calls Try.prog 8 #[Vi d.what, Vi 4] W fun e w' => (∃ r : Nat, r < 4 ∧ e = .returned (Vi r)) ∧ W = w' := fun W => pick8_any d.what 4 W (by omega) (by omega)
        obtain ⟨d0, _⟩ := hP.out.b7.cells
        clear a0 a1 a2 a3 a4 a5 a6 a7 a8
        clear b4 hx hm hs h4 htx b7 x1 x2 x12 xc b9 x13 b72 hlm c0 c1 c2 c3 c4 c5 c6 c7 c8 hT
        generalize hp9 : w2.heap.size = p9 at *
        generalize hp7 : wr.heap.size = p7 at *
        go_wp2_with fail
        refine (hpk _).mono ?_
        rintro e w3 ⟨⟨r, hr, rfl⟩, rfl⟩
        clear hpk
        generalize w2.alloc (.cells #[.slice none 0 0, .pointer none, .pointer none, Vi 0, Vi 0, Vi 0, Vq 0, Vq 0, .pointer none] 33) = W3 at *
        clear d0 hp9 hp7
        go_upto_if 34 with fail
        go_cut [10, 11] (fun s t wx => PcRel Ls w0 p4 q p7 p9 i d xv L G s t wx)
        case first =>
          obtain ⟨d0, d1, d2, d3, d4, d5, d6, d7, d8⟩ := hP.out.b7.cells
          obtain ⟨a0, a1, a2, a3, a4, a5, a6, a7, a8⟩ := hP.out.b4.cells
          by_cases hr3 : r = 3
          · have hd3 : ((r : Int) == 3) = true := by simp; omega
            clear hr hr3
            cases hh : hasI L (d.i.c, d.i.k) with
            | true =>
              have hde := Lib.hid (M.del F W3 (lsv xv) L G d.i.c d.i.k hP.out.x (by omega) (by omega) (by have := hwf.out.2; unfold wfI at this; unfold wfA; omega) hh)
              rw [hd3]
              go_wp2_with fail
              refine hde.out.mono ?_
              rintro e w5 ⟨F1, v1, rfl, hL1, hF1, x5⟩
              obtain ⟨yv, rfl⟩ := M.shape hL1
              have hP5 := Lib.hid (hP.out.ext M x5)
              have hP6 := Lib.hid (hP5.out.put M yv)
              have f0 := hP5.out.b9.thaw 0
              have f1 := hP5.out.b9.thaw 1
              have f2 := hP5.out.b9.thaw 2
              have f3 := hP5.out.b9.thaw 3
              have f4 := hP5.out.b9.thaw 4
              have f5 := hP5.out.b9.thaw 5
              have f6 := hP5.out.b9.thaw 6
              have f7 := hP5.out.b9.thaw 7
              have f8 := hP5.out.b9.thaw 8
              obtain ⟨g0, g1, g2, g3, g4, g5, g6, g7, g8⟩ := hP5.out.b9.cells
              clear d0 d1 d2 d3 d4 d5 d6 d7 d8
              clear a0 a1 a2 a3 a4 a5 a6 a7 a8
              obtain ⟨d0, d1, d2, d3, d4, d5, d6, d7, d8⟩ := hP6.out.b7.cells
              dsimp only [putL] at d0 d1 d2 d3 d4 d5 d6 d7 d8
              go_wp2_with fail
              refine (del_ref w0 _ q va vb L G d.i.c d.i.k hP6.out.m hP6.out.e (by omega) (by omega)).mono ?_
              rintro e w7 ⟨rfl, vb', hR7, hn2, ht7⟩
              rw [hh, if_pos rfl] at hR7
              rw [hh]
              have hY := hP.out.next M x5 hL1 hF1 (nxB.refl _ _) hn2 ht7
              have hC := hP6.out.deed M hR7 (nxB.refl _ _) hn2 ht7
              have hfin : Hid (PcRel Ls w0 p4 q p7 p9 i d xv L G .nilIface (.bool true) w7) := Lib.hid ⟨F, yv, _, _, L, G ++ [(d.i.c, d.i.k)], hC, by omega, by rw [List.length_append, List.length_singleton]; omega, .inl ⟨rfl, rfl, F1, hY⟩⟩
              clear hY hC hR7 ht7 hL1 hF1 hP5 hP6 d0 d1 d2 d3 d4 d5 d6 d7 d8
              go_wp2_with fail
              go_meet
              exact hfin.out
            | false =>
              have hde := Lib.hid (M.delNo F W3 (lsv xv) L G d.i.c d.i.k hP.out.x (by omega) (by omega) (by have := hwf.out.2; unfold wfI at this; unfold wfA; omega) hh)
              rw [hd3]
              go_wp2_with fail
              refine hde.out.mono ?_
              rintro e w5 ⟨yv, rfl, x5⟩
              have hP5 := Lib.hid (hP.out.ext M x5)
              have hP6 := Lib.hid (hP5.out.put M yv)
              have f0 := hP5.out.b9.thaw 0
              have f1 := hP5.out.b9.thaw 1
              have f2 := hP5.out.b9.thaw 2
              have f3 := hP5.out.b9.thaw 3
              have f4 := hP5.out.b9.thaw 4
              have f5 := hP5.out.b9.thaw 5
              have f6 := hP5.out.b9.thaw 6
              have f7 := hP5.out.b9.thaw 7
              have f8 := hP5.out.b9.thaw 8
              obtain ⟨g0, g1, g2, g3, g4, g5, g6, g7, g8⟩ := hP5.out.b9.cells
              clear d0 d1 d2 d3 d4 d5 d6 d7 d8
              clear a0 a1 a2 a3 a4 a5 a6 a7 a8
              obtain ⟨d0, d1, d2, d3, d4, d5, d6, d7, d8⟩ := hP6.out.b7.cells
              dsimp only [putL] at d0 d1 d2 d3 d4 d5 d6 d7 d8
              go_wp2_with fail
              refine (del_ref w0 _ q va vb L G d.i.c d.i.k hP6.out.m hP6.out.e (by omega) (by omega)).mono ?_
              rintro e w7 ⟨rfl, vb', hR7, hn2, ht7⟩
              rw [hh, if_neg (by decide)] at hR7
              rw [hh]
              have hC := hP6.out.deed M hR7 (nxB.refl _ _) hn2 ht7
              have hfin : Hid (PcRel Ls w0 p4 q p7 p9 i d xv L G (errv 1) (.bool false) w7) := Lib.hid ⟨F, yv, _, _, L, G, hC, by omega, by omega, .inr ⟨rfl, rfl, rfl, rfl⟩⟩
              clear hC hR7 ht7 hP5 hP6 d0 d1 d2 d3 d4 d5 d6 d7 d8
              go_wp2_with fail
              go_meet
              exact hfin.out
          · have hd3 : ((r : Int) == 3) = false := by simp; omega
            clear hr hr3
            cases hh : canI L d.i with
            | true =>
              have hde := Lib.hid (M.add F W3 (lsv xv) L G d.i d.g hP.out.x (by omega) (by omega) hwf.out.2 hh)
              obtain ⟨G', hG'⟩ : ∃ G', (if d.g then G ++ [(d.i.c, d.i.k)] else G) = G' := ⟨_, rfl⟩
              have hGl : G'.length ≤ i + 1 := by
                rw [← hG']
                split
                · rw [List.length_append, List.length_singleton]; omega
                · omega
              rw [hG'] at hde
              replace hG' := Lib.hid hG'
              rw [hd3]
              go_wp2_with fail
              refine hde.out.mono ?_
              rintro e w5 ⟨F1, v1, rfl, hL1, hF1, x5⟩
              obtain ⟨yv, rfl⟩ := M.shape hL1
              have hP5 := Lib.hid (hP.out.ext M x5)
              have hP6 := Lib.hid (hP5.out.put M yv)
              have f0 := hP5.out.b9.thaw 0
              have f1 := hP5.out.b9.thaw 1
              have f2 := hP5.out.b9.thaw 2
              have f3 := hP5.out.b9.thaw 3
              have f4 := hP5.out.b9.thaw 4
              have f5 := hP5.out.b9.thaw 5
              have f6 := hP5.out.b9.thaw 6
              have f7 := hP5.out.b9.thaw 7
              have f8 := hP5.out.b9.thaw 8
              obtain ⟨g0, g1, g2, g3, g4, g5, g6, g7, g8⟩ := hP5.out.b9.cells
              clear d0 d1 d2 d3 d4 d5 d6 d7 d8
              clear a0 a1 a2 a3 a4 a5 a6 a7 a8
              obtain ⟨d0, d1, d2, d3, d4, d5, d6, d7, d8⟩ := hP6.out.b7.cells
              dsimp only [putL] at d0 d1 d2 d3 d4 d5 d6 d7 d8
              go_wp2_with fail
              refine (add_ref w0 _ q va vb L G d.i d.g hP6.out.m hP6.out.e (by omega) (by omega)).mono ?_
              rintro e w7 ⟨rfl, va', vb', hR7, hn1, hn2, ht7⟩
              rw [hh, if_pos rfl, Bool.true_and, hG'.out] at hR7
              rw [hh]
              have hY := hP.out.next M x5 hL1 hF1 hn1 hn2 ht7
              have hC := hP6.out.deed M hR7 hn1 hn2 ht7
              have hfin : Hid (PcRel Ls w0 p4 q p7 p9 i d xv L G .nilIface (.bool true) w7) := Lib.hid ⟨F, yv, _, _, L ++ [d.i], G', hC, by rw [List.length_append, List.length_singleton]; omega, hGl, .inl ⟨rfl, rfl, F1, hY⟩⟩
              clear hY hC hR7 ht7 hL1 hF1 hP5 hP6 d0 d1 d2 d3 d4 d5 d6 d7 d8
              go_wp2_with fail
              go_meet
              exact hfin.out
            | false =>
              have hde := Lib.hid (M.addNo F W3 (lsv xv) L G d.i d.g hP.out.x (by omega) (by omega) hwf.out.2 hh)
              rw [hd3]
              go_wp2_with fail
              refine hde.out.mono ?_
              rintro e w5 ⟨yv, rfl, x5⟩
              have hP5 := Lib.hid (hP.out.ext M x5)
              have hP6 := Lib.hid (hP5.out.put M yv)
              have f0 := hP5.out.b9.thaw 0
              have f1 := hP5.out.b9.thaw 1
              have f2 := hP5.out.b9.thaw 2
              have f3 := hP5.out.b9.thaw 3
              have f4 := hP5.out.b9.thaw 4
              have f5 := hP5.out.b9.thaw 5
              have f6 := hP5.out.b9.thaw 6
              have f7 := hP5.out.b9.thaw 7
              have f8 := hP5.out.b9.thaw 8
              obtain ⟨g0, g1, g2, g3, g4, g5, g6, g7, g8⟩ := hP5.out.b9.cells
              clear d0 d1 d2 d3 d4 d5 d6 d7 d8
              clear a0 a1 a2 a3 a4 a5 a6 a7 a8
              obtain ⟨d0, d1, d2, d3, d4, d5, d6, d7, d8⟩ := hP6.out.b7.cells
              dsimp only [putL] at d0 d1 d2 d3 d4 d5 d6 d7 d8
              go_wp2_with fail
              refine (add_ref w0 _ q va vb L G d.i d.g hP6.out.m hP6.out.e (by omega) (by omega)).mono ?_
              rintro e w7 ⟨rfl, va', vb', hR7, hn1, hn2, ht7⟩
              rw [hh, if_neg (by decide), Bool.false_and, if_neg (by decide)] at hR7
              rw [hh]
              have hC := hP6.out.deed M hR7 hn1 hn2 ht7
              have hfin : Hid (PcRel Ls w0 p4 q p7 p9 i d xv L G (errv 1) (.bool false) w7) := Lib.hid ⟨F, yv, _, _, L, G, hC, by omega, by omega, .inr ⟨rfl, rfl, rfl, rfl⟩⟩
              clear hC hR7 ht7 hP5 hP6 d0 d1 d2 d3 d4 d5 d6 d7 d8
              go_wp2_with fail
              go_meet
              exact hfin.out
        case rest =>
          clear hP
          obtain ⟨F, yv, va, vb, L', G', hC, hL', hG', hway⟩ := hcut
          have hwa : Hid (wfA d.i.c d.i.k) := Lib.hid (by have := hwf.out.2; unfold wfI at this; unfold wfA; omega)
          have htx := Lib.hid (M.text F wc (lsv xv) L G hC.x (by omega) (by omega))
          have hsn : ∀ W : World, (binOp .neq 9 (.string (textE (entL L G))) (.string (textE (entL L G)))).run Try.prog W = .ok (.bool false) W := fun W => by simp [go_sem]
          obtain ⟨a0, a1, a2, a3, a4, a5, a6, a7, a8⟩ := hC.b4.cells
          rcases hway with ⟨rfl, rfl, F', hy, hsep⟩ | ⟨rfl, rfl, rfl, rfl⟩
          · replace hC := Lib.hid hC
            go_wp2_with fail
            refine htx.out.mono ?_
            rintro e w8 ⟨rfl, x8⟩
            have b48 := hC.out.b4.ext x8
            have b98 := hC.out.b9.ext x8
            have b78 := hC.out.b7.ext x8
            have hy8 := M.rx (M.ext hy x8) (putL_rx w8 p4 yv) (fun b hb => (hsep b hb).2)
            have hm8 := (hC.out.m.ext x8).rx (putL_rx w8 p4 yv) hC.out.s4
            have he8 := Lib.hid (RX.down (hC.out.e.trans x8) hl4 (putL_rx w8 p4 yv))
            have bn := Lib.hid (b48.put yv)
            have h74 : p7 ≠ p4 := by omega
            have b79 := b78.rx (putL_rx w8 p4 yv) h74
            obtain ⟨d0, d1, d2, d3, d4, d5, d6, d7, d8⟩ := b79.cells
            dsimp only [putL] at d0 d1 d2 d3 d4 d5 d6 d7 d8
            have f0 := b48.thaw 0
            have f1 := b48.thaw 1
            have f2 := b48.thaw 2
            have f3 := b48.thaw 3
            have f4 := b48.thaw 4
            have f5 := b48.thaw 5
            have f6 := b48.thaw 6
            have f7 := b48.thaw 7
            have f8 := b48.thaw 8
            clear a0 a1 a2 a3 a4 a5 a6 a7 a8
            obtain ⟨a0, a1, a2, a3, a4, a5, a6, a7, a8⟩ := b48.cells
            obtain ⟨g0, g1, g2, g3, g4, g5, g6, g7, g8⟩ := b98.cells
            obtain ⟨k0, k1, k2, k3, k4, k5, k6, k7, k8⟩ := bn.out.cells
            dsimp only [putL] at k0 k1 k2 k3 k4 k5 k6 k7 k8
            have his := Lib.hid (is9_any M F' yv q L' G' d.i.c d.i.k (putL w8 p4 yv) hy8 hm8.read (by omega) (by omega) hwa.out)
            have hfin := Lib.hid (show ∀ W, Ext (putL w8 p4 yv) W → PlyRel Ls w0 p4 q n (Vi ((i + 1 : Nat) : Int)) W from fun W hW =>
              ⟨i + 1, F', yv, va, vb, L', G', rfl, by omega, hL', hG', Lib.hid (bn.out.ext hW), Lib.hid (M.ext hy8 hW), Lib.hid (hm8.ext hW), Lib.hid hsep, Lib.hid hC.out.s4, Lib.hid (he8.out.trans hW)⟩)
            clear b48 b98 b78 hy8 hm8 b79 hy hsep x8
            go_wp2_with fail
            refine his.out.mono ?_
            rintro e w9 ⟨rfl, x9⟩
            have hf9 := Lib.hid (hfin.out w9 x9)
            go_wp2_with fail
            go_roundw
            case rel => exact hf9.out
            case measure => simp [intOf]; omega
          · replace hC := Lib.hid hC
            go_wp2_with fail
            refine (code_any 1 _ (by omega) (by omega)).mono ?_
            rintro e w8 ⟨rfl, rfl⟩
            go_wp2_with fail
            refine htx.out.mono ?_
            rintro e w8 ⟨rfl, x8⟩
            obtain ⟨d0, d1, d2, d3, d4, d5, d6, d7, d8⟩ := (hC.out.b7.ext x8).cells
            clear a0 a1 a2 a3 a4 a5 a6 a7 a8
            obtain ⟨a0, a1, a2, a3, a4, a5, a6, a7, a8⟩ := (hC.out.b4.ext x8).cells
            have his := Lib.hid (is9_any M F xv q L' G' d.i.c d.i.k w8 (M.ext hC.out.x x8) (hC.out.m.ext x8).read (by omega) (by omega) hwa.out)
            have hfin := Lib.hid (show ∀ W, Ext w8 W → PlyRel Ls w0 p4 q n (Vi ((i + 1 : Nat) : Int)) W from fun W hW =>
              ⟨i + 1, F, xv, va, vb, L', G', rfl, by omega, hL', hG', Lib.hid (hC.out.b4.ext (x8.trans hW)), Lib.hid (M.ext hC.out.x (x8.trans hW)), Lib.hid (hC.out.m.ext (x8.trans hW)), Lib.hid hC.out.sx, Lib.hid hC.out.s4, Lib.hid (hC.out.e.trans (x8.trans hW))⟩)
            clear x8
            go_wp2_with fail
            refine his.out.mono ?_
            rintro e w9 ⟨rfl, x9⟩
            have hf9 := Lib.hid (hfin.out w9 x9)
            go_wp2_with fail
            go_roundw
            case rel => exact hf9.out
            case measure => simp [intOf]; omega
      · go_wp2
        go_ret
        exact ⟨rfl, x0.trans he.out⟩
end Go.Proofs.Ytmpomammieenjaa
