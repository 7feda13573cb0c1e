/-
  Several texts of this seat in one file, each in the namespace again; no claim stands here.
-/
import Derived.Deep.DeepCutAuto
import Derived.Deep.RegionWith
import Derived.Test.YtmpomammieenjaaCH2
import Derived.Test.YtmpomammieenjaaCD2
import Derived.Test.YtmpomammieenjaaCF2
import Derived.Test.YtmpomammieenjaaCS
namespace Go.Proofs.Ytmpomammieenjaa
open Go.ChangeShapes Go.WideShapes Go.ChangeAt Go.RowKit Go.Sort
set_option linter.unusedVariables false
set_option linter.unusedSimpArgs false
attribute [local go_sem] World.cell?_alloc_some

theorem TS.rx {S : Nat → Prop} {p : Nat} {a b c : World} (h : TS S a b) (k : RX p b c) (hp : p < a.heap.size → S p) : TS S a c := h.on k (fun j e hj => by injection e with e; subst e; exact hp hj)
theorem RfM.rx {w0 W W' : World} {q p : Nat} {va vb : Value} {L : List It} {G : List I2} (h : RfM w0 W q va vb L G) (hx : RX p W W') (hp : ¬ lmB q va vb p) : RfM w0 W' q va vb L G :=
  ⟨hx.blk h.box (fun e => hp (.inl e.symm)), h.oi.kept hx (.inr fun e => hp (.inr (.inl e))), h.oo.kept hx (.inr fun e => hp (.inr (.inr e))), h.lq, h.qa, h.qb, h.ab⟩
theorem LsW.ts {Ls : (Nat → Prop) → World → Value → List It → List I2 → Prop} (M : LsW Ls) {F S : Nat → Prop} {W W' : World} {v : Value} {L : List It} {G : List I2} (h : Ls F W v L G) (hx : TS S W W') (hs : ∀ b, F b → ¬ S b) : Ls F W' v L G :=
  M.frame h (fun b hb => hx.block b (M.lt h hb) (hs b hb))
theorem LsW.rx {Ls : (Nat → Prop) → World → Value → List It → List I2 → Prop} (M : LsW Ls) {F : Nat → Prop} {p : Nat} {W W' : World} {v : Value} {L : List It} {G : List I2} (h : Ls F W v L G) (hx : RX p W W') (hs : ∀ b, F b → b ≠ p) : Ls F W' v L G :=
  M.frame h (fun b hb => World.grownBy.block hx b (M.lt h hb) (fun e => hs b hb (by injection e)))
theorem lm_next {q : Nat} {va vb va' vb' : Value} {w : World} {b : Nat} (h : ¬ lmB q va vb b) (n1 : nxB w va va') (n2 : nxB w vb vb') (hb : b < w.heap.size) : ¬ lmB q va' vb' b := by
  rintro (e | e | e)
  · exact h (.inl e)
  · rcases n1 with h1 | ⟨g, h1, hg⟩
    · exact h (.inr (.inl (by rw [← h1]; exact e)))
    · rw [h1] at e; injection e with e; omega
  · rcases n2 with h1 | ⟨g, h1, hg⟩
    · exact h (.inr (.inr (by rw [← h1]; exact e)))
    · rw [h1] at e; injection e with e; omega
theorem BxL.rx {W W' : World} {q p : Nat} {x : Lv} (h : BxL W q x) (hx : RX p W W') (hn : q ≠ p) : BxL W' q x := hx.blk h hn
theorem BxD.rx {W W' : World} {q p : Nat} {x : De} (h : BxD W q x) (hx : RX p W W') (hn : q ≠ p) : BxD W' q x := hx.blk h hn
theorem BxD.ts {W W' : World} {q : Nat} {x : De} {S : Nat → Prop} (h : BxD W q x) (hx : TS S W W') (hn : ¬ S q) : BxD W' q x := hx.blk h hn

structure PcC (Ls : (Nat → Prop) → World → Value → List It → List I2 → Prop) (w0 : World) (p4 q p7 p9 : Nat) (d : De) (xv : Lv) (L : List It) (G : List I2) (F : Nat → Prop) (yv : Lv) (va vb : Value) (L' : List It) (G' : List I2) (W : World) : Prop where
  b4 : BxL W p4 xv
  b9 : BxL W p9 yv
  b7 : BxD W p7 d
  x : Ls F W (lsv xv) L G
  m : RfM w0 W q va vb L' G'
  sx : ∀ b, F b → ¬ lmB q va vb b ∧ b ≠ p4
  s4 : ¬ lmB q va vb p4
  e : Ext w0 W
structure PdC (Ls : (Nat → Prop) → World → Value → List It → List I2 → Prop) (w0 : World) (p4 q p7 p9 : Nat) (d : De) (xv : Lv) (L : List It) (G : List I2) (F : Nat → Prop) (z9 : Lv) (va vb : Value) (W : World) : Prop extends PcC Ls w0 p4 q p7 p9 d xv L G F z9 va vb L G W where
  f9 : ∀ b, F b → b ≠ p9
  s9 : ¬ lmB q va vb p9
  s7 : ¬ lmB q va vb p7
  h49 : p4 ≠ p9
  h79 : p7 ≠ p9
  l9 : w0.heap.size ≤ p9
theorem PdC.ext {Ls : (Nat → Prop) → World → Value → List It → List I2 → Prop} (M : LsW Ls) {w0 W W' : World} {p4 q p7 p9 : Nat} {d : De} {xv : Lv} {L : List It} {G : List I2} {F : Nat → Prop} {z9 : Lv} {va vb : Value} (h : PdC Ls w0 p4 q p7 p9 d xv L G F z9 va vb W) (hx : Ext W W') : PdC Ls w0 p4 q p7 p9 d xv L G F z9 va vb W' :=
  { b4 := h.b4.ext hx, b9 := h.b9.ext hx, b7 := h.b7.ext hx, x := M.ext h.x hx, m := h.m.ext hx, sx := h.sx, s4 := h.s4, e := h.e.trans hx, f9 := h.f9, s9 := h.s9, s7 := h.s7, h49 := h.h49, h79 := h.h79, l9 := h.l9 }
theorem PdC.put {Ls : (Nat → Prop) → World → Value → List It → List I2 → Prop} (M : LsW Ls) {w0 W : World} {p4 q p7 p9 : Nat} {d : De} {xv : Lv} {L : List It} {G : List I2} {F : Nat → Prop} {z9 : Lv} {va vb : Value} (h : PdC Ls w0 p4 q p7 p9 d xv L G F z9 va vb W) (yv : Lv) : PdC Ls w0 p4 q p7 p9 d xv L G F yv va vb (putL W p9 yv) :=
  { b4 := h.b4.rx (putL_rx W p9 yv) h.h49, b9 := h.b9.put yv, b7 := h.b7.rx (putL_rx W p9 yv) h.h79, x := M.rx h.x (putL_rx W p9 yv) h.f9, m := h.m.rx (putL_rx W p9 yv) h.s9, sx := h.sx, s4 := h.s4, e := RX.down h.e h.l9 (putL_rx W p9 yv), f9 := h.f9, s9 := h.s9, s7 := h.s7, h49 := h.h49, h79 := h.h79, l9 := h.l9 }
theorem PdC.deed {Ls : (Nat → Prop) → World → Value → List It → List I2 → Prop} (M : LsW Ls) {w0 W W' : World} {p4 q p7 p9 : Nat} {d : De} {xv : Lv} {L L' : List It} {G G' : List I2} {F : Nat → Prop} {yv : Lv} {va vb va' vb' : Value} (h : PdC Ls w0 p4 q p7 p9 d xv L G F yv va vb W)
    (hm : RfM w0 W' q va' vb' L' G') (n1 : nxB W va va') (n2 : nxB W vb vb') (ht : TS (lmB q va vb) W W') : PcC Ls w0 p4 q p7 p9 d xv L G F yv va' vb' L' G' W' :=
  { b4 := h.b4.ts ht h.s4, b9 := h.b9.ts ht h.s9, b7 := h.b7.ts ht h.s7, x := M.ts h.x ht (fun b hb => (h.sx b hb).1), m := hm, sx := fun b hb => ⟨lm_next (h.sx b hb).1 n1 n2 (M.lt h.x hb), (h.sx b hb).2⟩, s4 := lm_next h.s4 n1 n2 h.b4.lt, e := ht.down h.e (fun k hk => (h.m.low k hk).1) }
theorem PdC.next {Ls : (Nat → Prop) → World → Value → List It → List I2 → Prop} (M : LsW Ls) {w0 W W1 W' : World} {p4 q p7 p9 : Nat} {d : De} {xv yv z9 : Lv} {L L' : List It} {G G' : List I2} {F F' : Nat → Prop} {va vb va' vb' : Value} (h : PdC Ls w0 p4 q p7 p9 d xv L G F z9 va vb W) (x1 : Ext W W1)
    (hy : Ls F' W1 (lsv yv) L' G') (hF : ∀ b, F' b → F b ∨ W.heap.size ≤ b) (n1 : nxB (putL W1 p9 yv) va va') (n2 : nxB (putL W1 p9 yv) vb vb') (ht : TS (lmB q va vb) (putL W1 p9 yv) W') : Ls F' W' (lsv yv) L' G' ∧ ∀ b, F' b → ¬ lmB q va' vb' b ∧ b ≠ p4 := by
  have h1 : ∀ b, F' b → ¬ lmB q va vb b ∧ b ≠ p4 ∧ b ≠ p9 := fun b hb => by
    rcases hF b hb with e | e
    · exact ⟨(h.sx b e).1, (h.sx b e).2, h.f9 b e⟩
    · refine ⟨fun k => by have := (h.m.low b k).2; omega, fun k => by have := h.b4.lt; omega, fun k => by have := h.b9.lt; omega⟩
  have h2 := M.rx hy (putL_rx W1 p9 yv) (fun b hb => (h1 b hb).2.2)
  exact ⟨M.ts h2 ht (fun b hb => (h1 b hb).1), fun b hb => ⟨lm_next (h1 b hb).1 n1 n2 (M.lt h2 hb), (h1 b hb).2.1⟩⟩

end Go.Proofs.Ytmpomammieenjaa

namespace Go.Proofs.Ytmpomammieenjaa
set_option linter.unusedVariables false
set_option linter.unusedSimpArgs false

theorem knL_mem (l : List It) : ∀ x ∈ knL l, x ∈ l ∧ okB x.ch = true := by
  have key : ∀ (r o : List It), (∀ x ∈ o, x ∈ l ∧ okB x.ch = true) → (∀ x ∈ r, x ∈ l) → ∀ x ∈ r.foldl stepK o, x ∈ l ∧ okB x.ch = true := by
    intro r
    induction r with
    | nil => intro o ho _; exact ho
    | cons y r ih =>
      intro o ho hr
      rw [List.foldl_cons]
      refine ih _ ?_ (fun x hx => hr x (List.mem_cons_of_mem _ hx))
      unfold stepK
      split
      · rename_i h
        rw [Bool.and_eq_true] at h
        intro x hx
        rcases List.mem_append.1 hx with hx | hx
        · exact ho x hx
        · rw [List.mem_singleton] at hx
          subst hx
          exact ⟨hr x (List.mem_cons_self ..), h.2⟩
      · exact ho
  exact key l [] (by simp) (fun x hx => hx)
theorem canI_at {K : List It} (hk : knownI K = true) {i : Nat} {x : It} (hx : K[i]? = some x) (hc : okB x.ch = true) : canI (K.take i) x = true := by
  rw [canI_is, (known_at hk hx).1, hc]; rfl
theorem take_snoc {α : Type} {K : List α} {i : Nat} {x : α} (hx : K[i]? = some x) : K.take i ++ [x] = K.take (i + 1) := by
  rw [List.take_add_one, hx]; rfl
end Go.Proofs.Ytmpomammieenjaa

namespace Go.Proofs.Ytmpomammieenjaa
open Go.ChangeShapes Go.WideShapes Go.ChangeAt Go.RowKit Go.Sort
set_option linter.unusedVariables false
set_option linter.unusedSimpArgs false

def KL (Ls : (Nat → Prop) → World → Value → List It → List I2 → Prop) (w a b : World) : Prop := (Ext w a → Ext w b) ∧ ∀ (F : Nat → Prop) (v : Value) (L : List It) (G : List I2), Ls F a v L G → ∃ F' : Nat → Prop, (∀ b, F' b → F b) ∧ Ls F' b v L G
theorem KL.trans {Ls : (Nat → Prop) → World → Value → List It → List I2 → Prop} {w a b c : World} (h : KL Ls w a b) (k : KL Ls w b c) : KL Ls w a c :=
  ⟨fun x => k.1 (h.1 x), fun F v L G hI => by
    obtain ⟨F1, h1, h2⟩ := h.2 F v L G hI
    obtain ⟨F2, h3, h4⟩ := k.2 F1 v L G h2
    exact ⟨F2, fun b hb => h1 b (h3 b hb), h4⟩⟩
theorem KL.ext {Ls : (Nat → Prop) → World → Value → List It → List I2 → Prop} (M : LsW Ls) {w a b : World} (h : Ext a b) : KL Ls w a b := ⟨fun x => x.trans h, fun F v L G hI => ⟨F, fun _ hb => hb, M.ext hI h⟩⟩
def NewV (Ls : (Nat → Prop) → World → Value → List It → List I2 → Prop) (F : Nat → Prop) (s : Nat) (L : List It) (G : List I2) (W : World) (yv : Lv) : Prop := ∃ F1 : Nat → Prop, Ls F1 W (lsv yv) L G ∧ ∀ b, F1 b → F b ∨ s ≤ b
theorem NewV.ext {Ls : (Nat → Prop) → World → Value → List It → List I2 → Prop} (M : LsW Ls) {F : Nat → Prop} {s : Nat} {L : List It} {G : List I2} {W W' : World} {yv : Lv} (h : NewV Ls F s L G W yv) (hx : Ext W W') : NewV Ls F s L G W' yv := by
  obtain ⟨F1, h1, h2⟩ := h
  exact ⟨F1, M.ext h1 hx, h2⟩
theorem NewV.kl {Ls : (Nat → Prop) → World → Value → List It → List I2 → Prop} {F : Nat → Prop} {s : Nat} {L : List It} {G : List I2} {w W W' : World} {yv : Lv} (h : NewV Ls F s L G W yv) (hx : KL Ls w W W') : NewV Ls F s L G W' yv := by
  obtain ⟨F1, h1, h2⟩ := h
  obtain ⟨F2, h3, h4⟩ := hx.2 F1 _ _ _ h1
  exact ⟨F2, h4, fun b hb => h2 b (h3 b hb)⟩
def NewPL (Ls : (Nat → Prop) → World → Value → List It → List I2 → Prop) (F : Nat → Prop) (s : Nat) (L : List It) (G : List I2) (v : Value) (W : World) : Prop :=
  ∃ (p : Nat) (yv : Lv) (F1 : Nat → Prop), v = .pointer (some ⟨p, 0, none⟩) ∧ s ≤ p ∧ BxL W p yv ∧ Ls F1 W (lsv yv) L G ∧ (∀ b, F1 b → F b ∨ s ≤ b) ∧ (∀ b, F1 b → b ≠ p)
theorem NewPL.ext {Ls : (Nat → Prop) → World → Value → List It → List I2 → Prop} (M : LsW Ls) {F : Nat → Prop} {s : Nat} {L : List It} {G : List I2} {v : Value} {W W' : World} (h : NewPL Ls F s L G v W) (hx : Ext W W') : NewPL Ls F s L G v W' := by
  obtain ⟨p, yv, F1, h1, h2, h3, h4, h5, h6⟩ := h
  exact ⟨p, yv, F1, h1, h2, h3.ext hx, M.ext h4 hx, h5, h6⟩
theorem putL_new {Ls : (Nat → Prop) → World → Value → List It → List I2 → Prop} (M : LsW Ls) {F : Nat → Prop} {s q : Nat} {L : List It} {G : List I2} {w W : World} {yv : Lv} (hs : w.heap.size ≤ s) (hq : s ≤ q) (hz : BxL W q zLv) (h : NewV Ls F s L G W yv) :
    KL Ls w W (putL W q yv) ∧ NewPL Ls F s L G (.pointer (some ⟨q, 0, none⟩)) (putL W q yv) := by
  have hfr : ∀ b, b ≠ q → b < W.heap.size → (putL W q yv).heap[b]? = W.heap[b]? := fun b hb hl => (show W.grownBy (putL W q yv) (some q) from putL_rx _ _ _).block b hl (fun e => hb (by injection e))
  have hst : ∀ (F : Nat → Prop) (v : Value) (L : List It) (G : List I2), Ls F W v L G → Ls (fun b => F b ∧ b ≠ q) (putL W q yv) v L G := fun F v L G hI => M.frame (M.avoid hI hz) (fun b hb => hfr b hb.2 (M.lt hI hb.1))
  refine ⟨⟨fun x => RX.down x (Nat.le_trans hs hq) (putL_rx _ _ _), fun F v L G hI => ⟨_, fun b hb => hb.1, hst F v L G hI⟩⟩, ?_⟩
  obtain ⟨F1, h1, h2⟩ := h
  exact ⟨q, yv, _, rfl, hq, hz.put yv, hst _ _ _ _ h1, fun b hb => h2 b hb.1, fun b hb => hb.2⟩
end Go.Proofs.Ytmpomammieenjaa

namespace Go.Proofs.Ytmpomammieenjaa
open Go.ChangeShapes Go.WideShapes Go.ChangeAt Go.RowKit Go.Sort
set_option linter.unusedVariables false
set_option linter.unusedSimpArgs false

def ZsR (w : World) (A : Option Addr) (l : List Int) : Prop := Row w A (l.map Vi)
set_option maxRecDepth 100000 in
theorem intsR_open {H : Type} {enc : TypeId × Value → H} {W : World} {base b0 : Nat} {sp : Nat → Bool} {hd : Bool} {r : Reach} {v : Value} {d : DataW H} {p : List MemPlace} (hv : Value.okWide Try.prog W r b0 58 v) (h : DataW.Trod enc Try.prog W base sp hd 58 v d p) :
    ∃ (A : Option Addr) (n cap : Nat) (l : List Int), v = .slice A n cap ∧ l.length = n ∧ ZsR W A l := by
  obtain ⟨a, len, cap, rfl⟩ := okWide_slice Try.underlying58 hv
  obtain ⟨fuel, hf⟩ := h
  have hf' : DataW.trod enc Try.prog W base sp hd fuel 58 [.slice a len cap] = some (d, p) := hf
  have ce : Try.prog.cellsOf 3 = 1 := by kernel_rfl
  rcases open_ints Try.underlying58 Try.underlying3 ce hf' with ⟨e, _⟩ | ⟨a', len', cap', zl, e, _, hl, _, hz, _, hc, _⟩
  · injection e with e
    injection e with e1 e2 e3
    subst e1
    subst e2
    subst e3
    exact ⟨_, _, _, [], rfl, rfl, Row.nil _ _⟩
  · injection e with e
    injection e with e1 e2 e3
    subst e1
    subst e2
    subst e3
    have hml : len ≤ zl.length := by rw [hz]; split <;> omega
    refine ⟨some a', len, cap, zl.take len, rfl, by rw [List.length_take]; omega, ?_⟩
    intro h0
    have hlen : 0 < len := by simp at h0; omega
    have g0 := hc 0 (by omega)
    obtain ⟨b, o, spot⟩ := a'
    have hspot : spot = none := by simpa [Addr.add] using World.cell?_spot g0
    subst hspot
    refine ⟨b, o, rfl, fun j u hu => ?_⟩
    have hj : j < len := by
      have := (List.getElem?_eq_some_iff.1 hu).1
      rw [List.length_map, List.length_take] at this
      omega
    have hcj := hc j (by omega)
    rw [add_at] at hcj
    rw [hcj, ← hu, List.getElem?_map, List.getElem?_take, if_pos hj, List.getElem?_eq_getElem (by omega), List.getD_eq_getElem?_getD, List.getElem?_eq_getElem (by omega)]
    rfl

end Go.Proofs.Ytmpomammieenjaa

namespace Go.Proofs.Ytmpomammieenjaa
open Go.ChangeShapes Go.WideShapes Go.ChangeAt Go.RowKit Go.Sort
set_option linter.unusedVariables false
set_option linter.unusedSimpArgs false
attribute [local go_sem] World.cell?_alloc_some

theorem ZsR.ext {w w' : World} {A : Option Addr} {l : List Int} (h : ZsR w A l) (hx : Ext w w') : ZsR w' A l := Row.ext h hx
theorem ZsR.at {w : World} {A : Option Addr} {l : List Int} (h : ZsR w A l) {k : Nat} {z : Int} (hk : l[k]? = some z) : ∃ b o, A = some ⟨b, o, none⟩ ∧ w.cell? ⟨b, o + k, none⟩ = some (Vi z) := by
  have hkl := (List.getElem?_eq_some_iff.1 hk).1
  obtain ⟨b, o, e, hc⟩ := h (by rw [List.length_map]; omega)
  exact ⟨b, o, e, hc k _ (by rw [List.getElem?_map, hk]; rfl)⟩
def NewL (Ls : (Nat → Prop) → World → Value → List It → List I2 → Prop) (F : Nat → Prop) (wr : World) (L : List It) (G : List I2) (s e : Value) (W : World) : Prop :=
  ∃ (p : Nat) (yv : Lv) (F1 : Nat → Prop), s = .pointer (some ⟨p, 0, none⟩) ∧ e = .nilIface ∧ BxL W p yv ∧ Ls F1 W (lsv yv) L G ∧ (∀ b, F1 b → F b ∨ wr.heap.size ≤ b) ∧ (∀ b, F1 b → b ≠ p) ∧ wr.heap.size ≤ p ∧ Ext wr W
theorem NewL.after {Ls : (Nat → Prop) → World → Value → List It → List I2 → Prop} (M : LsW Ls) {F F1 : Nat → Prop} {wr w3 : World} {L : List It} {G : List I2} {yv : Lv} (x3 : Ext wr.drew w3) (hL1 : Ls F1 w3 (lsv yv) L G) (hF1 : ∀ b, F1 b → F b ∨ wr.drew.heap.size ≤ b) :
    NewL Ls F wr L G (.pointer (some ⟨w3.heap.size, 0, none⟩)) .nilIface (w3.alloc (.cells #[.slice yv.A yv.n yv.c, .pointer yv.l, .pointer yv.r, Vi yv.h, Vi yv.m, Vi yv.s, Vq yv.lo, Vq yv.hi, .pointer yv.p] 33)) :=
  ⟨w3.heap.size, yv, F1, rfl, rfl, BxL.new w3 yv, M.ext hL1 ((Ext.refl _).alloc _), hF1, fun b hb => by have := M.lt hL1 hb; omega, x3.size, ((Ext.refl wr).drew.trans x3).alloc _⟩
theorem NewL.before {Ls : (Nat → Prop) → World → Value → List It → List I2 → Prop} (M : LsW Ls) {F F1 : Nat → Prop} {wr w3 : World} {L : List It} {G : List I2} {yv : Lv} (hF : ∀ b, F b → b < wr.heap.size) (x3 : Ext (wr.alloc (.cells #[.slice none 0 0, .pointer none, .pointer none, Vi 0, Vi 0, Vi 0, Vq 0, Vq 0, .pointer none] 33)).drew w3) (hL1 : Ls F1 w3 (lsv yv) L G) (hF1 : ∀ b, F1 b → F b ∨ (wr.alloc (.cells #[.slice none 0 0, .pointer none, .pointer none, Vi 0, Vi 0, Vi 0, Vq 0, Vq 0, .pointer none] 33)).drew.heap.size ≤ b) :
    NewL Ls F wr L G (.pointer (some ⟨wr.heap.size, 0, none⟩)) .nilIface (putL w3 wr.heap.size yv) := by
  have bz : BxL (wr.alloc (.cells #[.slice none 0 0, .pointer none, .pointer none, Vi 0, Vi 0, Vi 0, Vq 0, Vq 0, .pointer none] 33)).drew wr.heap.size zLv := (BxL.new wr zLv).ext ((Ext.refl _).drew)
  have hsz : (wr.alloc (.cells #[.slice none 0 0, .pointer none, .pointer none, Vi 0, Vi 0, Vi 0, Vq 0, Vq 0, .pointer none] 33)).drew.heap.size = wr.heap.size + 1 := by simp
  have h1 : ∀ b, F1 b → b ≠ wr.heap.size := fun b hb => by
    rcases hF1 b hb with e | e
    · have := hF b e; omega
    · omega
  have xw := (((Ext.refl wr).alloc (.cells #[.slice none 0 0, .pointer none, .pointer none, Vi 0, Vi 0, Vi 0, Vq 0, Vq 0, .pointer none] 33)).drew).trans x3
  refine ⟨wr.heap.size, yv, F1, rfl, rfl, (bz.ext x3).put yv, M.rx hL1 (putL_rx _ _ _) h1, fun b hb => ?_, h1, Nat.le_refl _, RX.down xw (Nat.le_refl _) (putL_rx _ _ _)⟩
  rcases hF1 b hb with e | e
  · exact .inl e
  · exact .inr (by omega)
def PcsRel (Ls : (Nat → Prop) → World → Value → List It → List I2 → Prop) (w0 : World) (p4 q : Nat) (K : List It) (v13 : Value) (W : World) : Prop :=
  ∃ (i : Nat) (F : Nat → Prop) (xv : Lv) (va vb : Value) (G : List I2), v13 = Vi i ∧ i ≤ K.length ∧ G.length ≤ i ∧ Hid (BxL W p4 xv) ∧ Hid (Ls F W (lsv xv) (K.take i) G) ∧ Hid (RfM w0 W q va vb (K.take i) G) ∧ Hid (∀ b, F b → ¬ lmB q va vb b ∧ b ≠ p4) ∧ Hid (¬ lmB q va vb p4) ∧ Hid (Ext w0 W)

def lpc15 (Ls : (Nat → Prop) → World → Value → List It → List I2 → Prop) (F : Nat → Prop) (s p4 bk ok k cm i : Nat) (xv : Lv) (x : It) (b : Bool) (L2 : List It) (G2 : List I2) : SoftTab := [(69, fun z9 W => z9 = lsv xv),
  (70, fun z9 W => z9 = .slice (some ⟨bk, ok, none⟩) k cm),
  (71, fun z9 W => z9 = Vi (i : Int)),
  (72, fun z9 W => z9 = .pointer (some ⟨bk, ok + i * 7, none⟩)),
  (73, fun z9 W => z9 = itv x),
  (74, fun z9 W => z9 = .bool b),
  (75, fun z9 W => ∃ yv, z9 = .tuple #[lsv yv, .nilIface] ∧ NewV Ls F s L2 G2 W yv),
  (68, fun z9 W => ∃ yv, z9 = .tuple #[lsv yv, .nilIface] ∧ NewV Ls F s L2 G2 W yv),
  (76, fun z9 W => ∃ yv, z9 = lsv yv ∧ NewV Ls F s L2 G2 W yv),
  (77, fun z9 W => z9 = .nilIface),
  (16, fun z9 W => ∃ q, z9 = .pointer (some ⟨q, 0, none⟩) ∧ (s ≤ q ∧ BxL W q zLv)),
  (17, fun z9 W => True)]
theorem lpc15_mono {Ls : (Nat → Prop) → World → Value → List It → List I2 → Prop} (M : LsW Ls) (F : Nat → Prop) (s p4 bk ok k cm i : Nat) (xv : Lv) (x : It) (b : Bool) (L2 : List It) (G2 : List I2) (wq : World) : SoftMonoV (KL Ls wq) 10 (lpc15 Ls F s p4 bk ok k cm i xv x b L2 G2) := by
  constructor
  · intro k d R hk v' W W' h hx
    have hp := List.mem_of_getElem? hk
    simp only [lpc15, List.mem_cons, Prod.mk.injEq, List.not_mem_nil, or_false] at hp
    rcases hp with ⟨_, rfl⟩ | ⟨_, rfl⟩ | ⟨_, rfl⟩ | ⟨_, rfl⟩ | ⟨_, rfl⟩ | ⟨_, rfl⟩ | ⟨_, rfl⟩ | ⟨_, rfl⟩ | ⟨_, rfl⟩ | ⟨_, rfl⟩ | ⟨_, rfl⟩ | ⟨_, rfl⟩
    all_goals first
      | exact h
      | (obtain ⟨yv, h1, h2⟩ := h
         exact ⟨yv, h1, h2.ext M hx⟩)
      | (obtain ⟨q, h1, h2, h3⟩ := h
         exact ⟨q, h1, h2, h3.ext hx⟩)
  · intro k d R hk hne v' W W' h hx
    have hkn : k < 12 := (List.getElem?_eq_some_iff.1 hk).1
    have h9 : k = 0 ∨ k = 1 ∨ k = 2 ∨ k = 3 ∨ k = 4 ∨ k = 5 ∨ k = 6 ∨ k = 7 ∨ k = 8 ∨ k = 9 ∨ k = 11 := by omega
    rcases h9 with rfl | rfl | rfl | rfl | rfl | rfl | rfl | rfl | rfl | rfl | rfl
    all_goals
      simp only [lpc15, List.getElem?_cons_succ, List.getElem?_cons_zero, Option.some.injEq, Prod.mk.injEq] at hk
      obtain ⟨_, rfl⟩ := hk
      first
        | exact h
        | (obtain ⟨yv, h1, h2⟩ := h
           exact ⟨yv, h1, h2.kl hx⟩)

set_option maxRecDepth 100000 in
set_option maxHeartbeats 32000000 in
theorem listPlaces_walk {Ls : (Nat → Prop) → World → Value → List It → List I2 → Prop} (M : LsW Ls) (A Ap : Option Addr) (n cap np cp : Nat) (l : List It) (gone : List Int) (zk zn : Int) (w : World) (hv : ItS w A l) (hn : l.length = n) (hwl : ∀ x ∈ l, wfI x) (hp : ZsR w Ap gone) (hpn : gone.length = np)
    (hzk : -9223372036854775808 ≤ zk ∧ zk ≤ 9223372036854775807) (hzn : -9223372036854775808 ≤ zn ∧ zn ≤ 9223372036854775807) :
    Calls Try.prog 4 #[.slice A n cap, .slice Ap np cp, Vi zk, Vi zn] w fun e w' => e = .returned (.bool true) ∧ Ext w w' := by
  have hup := Lib.hid (up9_any M w)
  have hc2 := Lib.hid (fun (W : World) (hW : Ext w W) (hb : n ≤ 40) => knownL_any A n cap l W (hv.ext hW) hn (by omega))
  have hKn : (knL l).length ≤ n := hn ▸ knL_len l
  have hkm := Lib.hid (knL_known l)
  have hkc := Lib.hid (fun x (hx : x ∈ knL l) => (knL_mem l x hx).2)
  have hkw := Lib.hid (fun x (hx : x ∈ knL l) => hwl x (knL_mem l x hx).1)
  replace hp := Lib.hid hp
  replace hpn := Lib.hid hpn
  clear hn hv hwl
  generalize knL l = K at *
  go_enter Try.func4, Try.ntmps4
  go_wp2_with fail
  refine hup.out.mono ?_
  rintro e w0 ⟨rfl, x0⟩
  by_cases h40 : 40 < n
  · go_wp2
    go_ret
    exact ⟨rfl, x0⟩
  by_cases h41 : 40 < np
  · go_wp2
    go_ret
    exact ⟨rfl, x0⟩
  go_wp2_with fail
  refine (hc2.out _ x0 (by omega)).mono ?_
  rintro e w2 ⟨v2, rfl, o2, x2⟩
  obtain ⟨Am, cm, rfl, hkcp, hM2⟩ := o2.open
  obtain ⟨k, hk⟩ : ∃ k, K.length = k := ⟨_, rfl⟩
  rw [hk] at hkcp hKn ⊢
  have xw2 := x0.trans x2
  have hk40 : k ≤ 40 := by omega
  replace hk := Lib.hid hk
  clear o2 hc2 x2 x0
  have hp2 := Lib.hid (hp.out.ext xw2)
  have hM2' := Lib.hid hM2
  have bz : BxL (w2.alloc (.cells #[.slice none 0 0, .pointer none, .pointer none, Vi 0, Vi 0, Vi 0, Vq 0, Vq 0, .pointer none] 33)) w2.heap.size zLv := BxL.new w2 zLv
  have xa : Ext w2 (w2.alloc (.cells #[.slice none 0 0, .pointer none, .pointer none, Vi 0, Vi 0, Vi 0, Vq 0, Vq 0, .pointer none] 33)) := (Ext.refl _).alloc _
  have bm : ((w2.alloc (.cells #[.slice none 0 0, .pointer none, .pointer none, Vi 0, Vi 0, Vi 0, Vq 0, Vq 0, .pointer none] 33)).alloc (.cells #[.slice none 0 0, .slice none 0 0] 38)).heap[w2.heap.size + 1]? = some (.cells #[.slice none 0 0, .slice none 0 0] 38 (0, 0)) := by
    have := heap_alloc_new (w2.alloc (.cells #[.slice none 0 0, .pointer none, .pointer none, Vi 0, Vi 0, Vi 0, Vq 0, Vq 0, .pointer none] 33)) (.cells #[.slice none 0 0, .slice none 0 0] 38)
    rwa [show (w2.alloc (.cells #[.slice none 0 0, .pointer none, .pointer none, Vi 0, Vi 0, Vi 0, Vq 0, Vq 0, .pointer none] 33)).heap.size = w2.heap.size + 1 by simp] at this
  have xb : Ext (w2.alloc (.cells #[.slice none 0 0, .pointer none, .pointer none, Vi 0, Vi 0, Vi 0, Vq 0, Vq 0, .pointer none] 33)) ((w2.alloc (.cells #[.slice none 0 0, .pointer none, .pointer none, Vi 0, Vi 0, Vi 0, Vq 0, Vq 0, .pointer none] 33)).alloc (.cells #[.slice none 0 0, .slice none 0 0] 38)) := (Ext.refl _).alloc _
  have hz := M.zero ((w2.alloc (.cells #[.slice none 0 0, .pointer none, .pointer none, Vi 0, Vi 0, Vi 0, Vq 0, Vq 0, .pointer none] 33)).alloc (.cells #[.slice none 0 0, .slice none 0 0] 38))
  have h0 : Hid (PcsRel Ls w2 w2.heap.size (w2.heap.size + 1) K (Vi 0) ((w2.alloc (.cells #[.slice none 0 0, .pointer none, .pointer none, Vi 0, Vi 0, Vi 0, Vq 0, Vq 0, .pointer none] 33)).alloc (.cells #[.slice none 0 0, .slice none 0 0] 38))) := Lib.hid
    ⟨0, _, zLv, .slice none 0 0, .slice none 0 0, [], rfl, Nat.zero_le _, Nat.le_refl _, Lib.hid (bz.ext xb), Lib.hid hz, Lib.hid ⟨bm, OwnI.nil _ _, OwnO.nil _ _, by omega, by simp [Value.ownBlock], by simp [Value.ownBlock], .inl rfl⟩,
      Lib.hid (fun b hb => hb.elim), Lib.hid (by rintro (e | e | e) <;> simp [Value.ownBlock] at e), Lib.hid (xa.trans xb)⟩
  clear bz bm xa xb hz hup hp hM2
  go_wp2_with fail
  generalize (w2.alloc (.cells #[.slice none 0 0, .pointer none, .pointer none, Vi 0, Vi 0, Vi 0, Vq 0, Vq 0, .pointer none] 33)).alloc (.cells #[.slice none 0 0, .slice none 0 0] 38) = wb at *
  obtain ⟨q, hq⟩ : ∃ q, w2.heap.size + 1 = q := ⟨_, rfl⟩
  obtain ⟨p4, hp4⟩ : ∃ p, w2.heap.size = p := ⟨_, rfl⟩
  rw [hq] at h0 ⊢
  rw [hp4] at h0 ⊢
  have hlq : w2.heap.size ≤ q := by omega
  have hl4 : w2.heap.size ≤ p4 := by omega
  clear hq hp4
  go_loopw [13] (fun i W => PcsRel Ls w2 p4 q K i W) (fun i _ => k - (intOf i).toNat)
  case atStart => exact h0.out
  case round =>
    clear h0
    obtain ⟨i, F, xv, va, vb, G, rfl, hi, hG, b4, hx, hm, hs, h4, he⟩ := hrel
    rw [hk.out] at hi
    by_cases hlt : i < k
    · have hi1 : (0 : Int) ≤ (i : Int) := by omega
      have hi2 : (i : Int) < (k : Int) := by omega
      have hk0 : 0 < k := by omega
      have hx0 := Lib.hid (Ext.refl wr)
      go_wp2_with fail
      go_loopw [14, 15] (fun b j W => ∃ (j' : Nat) (b' : Bool), j' ≤ np ∧ b = .bool b' ∧ j = Vi j' ∧ W = wr) (fun _ j _ => np - (intOf j).toNat)
      case atStart => exact ⟨0, false, Nat.zero_le _, rfl, rfl, rfl⟩
      case round =>
        obtain ⟨j, b, hj, rfl, rfl, rfl⟩ := hrel
        by_cases hjl : j < np
        · obtain ⟨zg, hzg⟩ : ∃ z, gone[j]? = some z := ⟨_, List.getElem?_eq_getElem (by rw [hpn.out]; exact hjl)⟩
          obtain ⟨bp, op, rfl, hcp⟩ := (hp2.out.ext he.out).at hzg
          have hj1 : (0 : Int) ≤ (j : Int) := by omega
          have hj2 : (j : Int) < (np : Int) := by omega
          have hpk : ∀ W, Calls Try.prog 8 #[Vi zg, Vi (k : Int)] W fun e w' => (∃ r : Nat, r < k ∧ e = .returned (Vi (r : Int))) ∧ W = w' := fun W => pick8_any zg k W hk0 (by omega)
          cases b with
          | true =>
            go_wp2_with fail
            go_roundw
            case rel => exact ⟨j + 1, true, by omega, rfl, by go_num, trivial⟩
            case measure => simp [intOf]; omega
          | false =>
            go_wp2_with fail
            refine (hpk _).mono ?_
            rintro e w6 ⟨⟨r, hr, rfl⟩, rfl⟩
            clear hpk
            go_wp2_with fail
            go_roundw
            case rel => exact ⟨j + 1, _, by omega, rfl, by go_num, trivial⟩
            case measure => simp [intOf]; omega
        · obtain ⟨x, hxi⟩ : ∃ x, K[i]? = some x := ⟨_, List.getElem?_eq_getElem (by rw [hk.out]; exact hlt)⟩
          have hca := Lib.hid (canI_at hkm.out hxi (hkc.out x (List.mem_of_getElem? hxi)))
          have hwx := Lib.hid (hkw.out x (List.mem_of_getElem? hxi))
          have hts := Lib.hid (take_snoc hxi)
          have hlen : Hid ((K.take i).length = i) := Lib.hid (by rw [List.length_take, hk.out]; omega)
          have hadd := Lib.hid (fun W (hW : Ext wr W) => M.add F W (lsv xv) (K.take i) G x b (M.ext hx.out hW) (by rw [hlen.out]; omega) (by omega) hwx.out hca.out)
          obtain ⟨bk, ok, x', rfl, hxi', dc⟩ := (hM2'.out.ext he.out).at (k := i) (by rw [hk.out]; exact hlt)
          rw [hxi] at hxi'
          injection hxi' with hxi'
          subst hxi'
          obtain ⟨c0, c1, c2, c3, c4, c5, c6⟩ := dc
          obtain ⟨a0, a1, a2, a3, a4, a5, a6, a7, a8⟩ := b4.out.cells
          clear hxi
          go_wp2_with fail
          have hFl := fun b hb => M.lt hx.out (b := b) hb
          have xA : Ext wr (wr.alloc (.cells #[.slice none 0 0, .pointer none, .pointer none, Vi 0, Vi 0, Vi 0, Vq 0, Vq 0, .pointer none] 33)).drew := ((Ext.refl _).alloc _).drew
          have xB : Ext wr wr.drew := (Ext.refl _).drew
          go_cut [16, 17] (fun s e wx => NewL Ls F wr (K.take i ++ [x]) (if b then G ++ [(x.c, x.k)] else G) s e wx)
          case first =>
            have hs8 := Lib.hid (Nat.le_refl wr.heap.size)
            have hs9 := hs8
            refine wp_soft_frameV (KL Ls wr) 11 10 16 _ (fun _ => True) (NewPL Ls F wr.heap.size (K.take i ++ [x]) (if b then G ++ [(x.c, x.k)] else G)) 12 (lpc15 Ls F wr.heap.size p4 bk ok k cm i xv x b (K.take i ++ [x]) (if b then G ++ [(x.c, x.k)] else G)) (by kernel_rfl) (by kernel_rfl) (fun _ _ _ => KL.trans) (fun _ _ => KL.ext M) (fun _ _ _ h => h) (fun _ _ _ h => (fun x => NewPL.ext M x h)) (by omega) trivial rfl (by show List.Nodup [69, 70, 71, 72, 73, 74, 75, 68, 76, 77, 16, 17]; decide) (by show ∀ d ∈ [69, 70, 71, 72, 73, 74, 75, 68, 76, 77, 16, 17], d < 167; decide) rfl (by kernel_rfl) (lpc15_mono M F wr.heap.size p4 bk ok k cm i xv x b (K.take i ++ [x]) (if b then G ++ [(x.c, x.k)] else G) wr) ?_ ⟨?_, ?_, ?_, ?_, ?_, ?_, ?_, ?_, ?_, ?_, ?_, ?_, trivial⟩
            · intro W f hT hR hPost
              have t0 := hT 0 69 _ rfl (by decide)
              have t1 := hT 1 70 _ rfl (by decide)
              have t2 := hT 2 71 _ rfl (by decide)
              have t3 := hT 3 72 _ rfl (by decide)
              have t4 := hT 4 73 _ rfl (by decide)
              have t5 := hT 5 74 _ rfl (by decide)
              have t6 := hT 6 75 _ rfl (by decide)
              have t7 := hT 7 68 _ rfl (by decide)
              have t8 := hT 8 76 _ rfl (by decide)
              have t9 := hT 9 77 _ rfl (by decide)
              simp only [lpc15, List.map_cons, List.map_nil, putAll, List.setIfInBounds_toArray, List.set_cons_zero, List.set_cons_succ, List.drop_succ_cons, List.drop_zero]
              try simp only at t0 t1 t2 t3 t4 t5 t9
              obtain ⟨y6, t6, _⟩ := t6
              obtain ⟨y7, t7, _⟩ := t7
              obtain ⟨y8, t8, _⟩ := t8
              obtain ⟨p9, yv, F1, eq, hp9, hy9, hI9, hF9, hN9⟩ := hPost
              rw [t0, t1, t2, t3, t4, t5, t9, t6, t7, t8, eq]
              clear t0 t1 t2 t3 t4 t5 t9 t6 t7 t8 eq hT
              have hXR := hR.1 (Ext.refl _)
              go_wp2_with fail
              go_meet
              exact ⟨p9, yv, F1, rfl, rfl, hy9, hI9, hF9, hN9, hp9, hXR⟩
            · refine softV_val 69 _ (by kernel_rfl) rfl rfl ?_
              intro a9 W hx hpre hout hdep
              have ev11 : a9.tmps[11]?.getD undef = .pointer (some ⟨p4, 0, none⟩) := by rw [← Array.getD_eq_getD_getElem?]; exact hout 11 (by show 11 ∉ [69, 70, 71, 72, 73, 74, 75, 68, 76, 77, 16, 17]; decide)
              have hE := hx.1 (Ext.refl _)
              have q0 := hE.keep a0
              have q1 := hE.keep a1
              have q2 := hE.keep a2
              have q3 := hE.keep a3
              have q4 := hE.keep a4
              have q5 := hE.keep a5
              have q6 := hE.keep a6
              have q7 := hE.keep a7
              have q8 := hE.keep a8
              refine ⟨rfl, lsv xv, W, ?_, rfl, Ext.refl _⟩
              simp [ev11, q0, q1, q2, q3, q4, q5, q6, q7, q8, execOp, go_sem]
            · refine softV_val 70 _ (by kernel_rfl) rfl rfl ?_
              intro a9 W hx hpre hout hdep
              have ev10 : a9.tmps[10]?.getD undef = .slice (some ⟨bk, ok, none⟩) k cm := by rw [← Array.getD_eq_getD_getElem?]; exact hout 10 (by show 10 ∉ [69, 70, 71, 72, 73, 74, 75, 68, 76, 77, 16, 17]; decide)
              refine ⟨rfl, .slice (some ⟨bk, ok, none⟩) k cm, W, ?_, rfl, Ext.refl _⟩
              simp [ev10, execOp, go_sem]
            · refine softV_val 71 _ (by kernel_rfl) rfl rfl ?_
              intro a9 W hx hpre hout hdep
              have ev13 : a9.tmps[13]?.getD undef = Vi (i : Int) := by rw [← Array.getD_eq_getD_getElem?]; exact hout 13 (by show 13 ∉ [69, 70, 71, 72, 73, 74, 75, 68, 76, 77, 16, 17]; decide)
              refine ⟨rfl, Vi (i : Int), W, ?_, rfl, Ext.refl _⟩
              simp [ev13, execOp, go_sem]
            · refine softV_val 72 _ (by kernel_rfl) rfl rfl ?_
              intro a9 W hx hpre hout hdep
              have ev70 : a9.tmps[70]?.getD undef = .slice (some ⟨bk, ok, none⟩) k cm := by rw [← Array.getD_eq_getD_getElem?]; exact (hdep ⟨1, .data⟩ (by simp) rfl 70 _ rfl (.inl (by simp))).1
              have ev71 : a9.tmps[71]?.getD undef = Vi (i : Int) := by rw [← Array.getD_eq_getD_getElem?]; exact (hdep ⟨2, .data⟩ (by simp) rfl 71 _ rfl (.inl (by simp))).1
              refine ⟨rfl, .pointer (some ⟨bk, ok + i * 7, none⟩), W, ?_, rfl, Ext.refl _⟩
              simp [ev70, ev71, hi1, hi2, execOp, go_sem]
            · refine softV_val 73 _ (by kernel_rfl) rfl rfl ?_
              intro a9 W hx hpre hout hdep
              have ev72 : a9.tmps[72]?.getD undef = .pointer (some ⟨bk, ok + i * 7, none⟩) := by rw [← Array.getD_eq_getD_getElem?]; exact (hdep ⟨3, .data⟩ (by simp) rfl 72 _ rfl (.inl (by simp))).1
              have hE := hx.1 (Ext.refl _)
              have q0 := hE.keep c0
              have q1 := hE.keep c1
              have q2 := hE.keep c2
              have q3 := hE.keep c3
              have q4 := hE.keep c4
              have q5 := hE.keep c5
              have q6 := hE.keep c6
              refine ⟨rfl, itv x, W, ?_, rfl, Ext.refl _⟩
              simp [ev72, q0, q1, q2, q3, q4, q5, q6, execOp, go_sem]
            · refine softV_val 74 _ (by kernel_rfl) rfl rfl ?_
              intro a9 W hx hpre hout hdep
              have ev14 : a9.tmps[14]?.getD undef = .bool b := by rw [← Array.getD_eq_getD_getElem?]; exact hout 14 (by show 14 ∉ [69, 70, 71, 72, 73, 74, 75, 68, 76, 77, 16, 17]; decide)
              refine ⟨rfl, .bool b, W, ?_, rfl, Ext.refl _⟩
              simp [ev14, execOp, go_sem]
            · refine softV_call 75 _ (by kernel_rfl) rfl rfl ?_
              intro a9 W hx hpre hout hdep
              have ev69 : a9.tmps[69]?.getD undef = lsv xv := by rw [← Array.getD_eq_getD_getElem?]; exact (hdep ⟨0, .data⟩ (by simp) rfl 69 _ rfl (.inl (by simp))).1
              have ev73 : a9.tmps[73]?.getD undef = itv x := by rw [← Array.getD_eq_getD_getElem?]; exact (hdep ⟨4, .data⟩ (by simp) rfl 73 _ rfl (.inl (by simp))).1
              have ev74 : a9.tmps[74]?.getD undef = .bool b := by rw [← Array.getD_eq_getD_getElem?]; exact (hdep ⟨5, .data⟩ (by simp) rfl 74 _ rfl (.inl (by simp))).1
              refine ⟨rfl, 11, #[lsv xv, itv x, .bool b], ?_, ?_⟩
              · simp [ev69, ev73, ev74, execOp, go_sem]
              · exact (hadd.out W (hx.1 (Ext.refl _))).mono (by rintro e W1 ⟨F1, v1, rfl, h1, h2, h3⟩; obtain ⟨yv, rfl⟩ := M.shape h1; exact ⟨_, rfl, ⟨yv, rfl, F1, h1, fun b9 hb => (h2 b9 hb).imp id (fun h => Nat.le_trans (hx.1 (Ext.refl _)).size h)⟩, h3⟩)
            · refine softV_val 68 _ (by kernel_rfl) rfl rfl ?_
              intro a9 W hx hpre hout hdep
              have tl75 := (hdep ⟨6, .data⟩ (by simp) rfl 75 _ rfl (.inl (by simp))).1
              obtain ⟨yv, eyv, hI9⟩ := tl75
              rw [Array.getD_eq_getD_getElem?] at eyv
              refine ⟨rfl, .tuple #[lsv yv, .nilIface], W, ?_, ⟨yv, rfl, hI9⟩, Ext.refl _⟩
              simp [eyv, execOp, go_sem]
            · refine softV_val 76 _ (by kernel_rfl) rfl rfl ?_
              intro a9 W hx hpre hout hdep
              have tl68 := (hdep ⟨7, .data⟩ (by simp) rfl 68 _ rfl (.inl (by simp))).1
              obtain ⟨yv, eyv, hI9⟩ := tl68
              rw [Array.getD_eq_getD_getElem?] at eyv
              refine ⟨rfl, lsv yv, W, ?_, ⟨yv, rfl, hI9⟩, Ext.refl _⟩
              simp [eyv, execOp, go_sem]
            · refine softV_val 77 _ (by kernel_rfl) rfl rfl ?_
              intro a9 W hx hpre hout hdep
              have tl68 := (hdep ⟨7, .data⟩ (by simp) rfl 68 _ rfl (.inl (by simp))).1
              obtain ⟨yv, eyv, hI9⟩ := tl68
              rw [Array.getD_eq_getD_getElem?] at eyv
              refine ⟨rfl, .nilIface, W, ?_, rfl, Ext.refl _⟩
              simp [eyv, execOp, go_sem]
            · refine softV_val 16 _ (by kernel_rfl) rfl rfl ?_
              intro a9 W hx hpre hout hdep
              refine ⟨rfl, .pointer (some ⟨W.heap.size, 0, none⟩), W.alloc (.cells #[.slice none 0 0, .pointer none, .pointer none, Vi 0, Vi 0, Vi 0, Vq 0, Vq 0, .pointer none] 33), ?_, ⟨_, rfl, Nat.le_trans hs9.out (hx.1 (Ext.refl _)).size, BxL.new W zLv⟩, (Ext.refl W).alloc _⟩
              simp [execOp, go_sem]
            · rw [if_pos (by rfl)]
              refine softD_none 17 (by kernel_rfl) rfl rfl ?_
              intro a9 W hx hpre hout hdep
              have tl16 := (hdep ⟨10, .data⟩ (by simp) rfl 16 _ rfl).1
              have tl76 := (hdep ⟨8, .data⟩ (by simp) rfl 76 _ rfl).1
              obtain ⟨qb, eqb, hqb, hzb⟩ := tl16
              obtain ⟨yv, eyv, hI2⟩ := tl76
              have eqb0 := eqb
              rw [Array.getD_eq_getD_getElem?] at eqb eyv
              obtain ⟨kc0, kc1, kc2, kc3, kc4, kc5, kc6, kc7, kc8⟩ := hzb.cells
              have fc0 := hzb.thaw 0
              have fc1 := hzb.thaw 1
              have fc2 := hzb.thaw 2
              have fc3 := hzb.thaw 3
              have fc4 := hzb.thaw 4
              have fc5 := hzb.thaw 5
              have fc6 := hzb.thaw 6
              have fc7 := hzb.thaw 7
              have fc8 := hzb.thaw 8
              have hpn := putL_new M (w := wr) hs8.out hqb hzb hI2
              rw [← eqb0] at hpn
              refine ⟨rfl, putL W qb yv, ?_, hpn.1, hpn.2⟩
              simp [eqb, eyv, kc0, fc0, kc1, fc1, kc2, fc2, kc3, fc3, kc4, fc4, kc5, fc5, kc6, fc6, kc7, fc7, kc8, fc8, execOp, go_sem]
          case rest =>
            obtain ⟨p, yv, F1, rfl, rfl, by', hy, hF1, hFp, hlp, xc⟩ := hcut
            have h1p : ∀ b', F1 b' → ¬ lmB q va vb b' ∧ b' ≠ p4 := fun b' hb => by
              rcases hF1 b' hb with e | e
              · exact hs.out b' e
              · exact ⟨fun k9 => by have := (hm.out.low b' k9).2; omega, fun k9 => by have := b4.out.lt; omega⟩
            have b4c := b4.out.ext xc
            have hlv := h4.out
            have hpp : p ≠ p4 := by have := b4.out.lt; omega
            have b45 := b4c.put yv
            have hm5 := (hm.out.ext xc).rx (putL_rx wc p4 yv) hlv
            have he5 := RX.down (he.out.trans xc) hl4 (putL_rx wc p4 yv)
            have hy5 := M.rx hy (putL_rx wc p4 yv) (fun b' hb => (h1p b' hb).2)
            obtain ⟨bk', ok', x', hAe, hxi', dc⟩ := (hM2'.out.ext he5).at (k := i) (by rw [hk.out]; exact hlt)
            injection hAe with hAe
            injection hAe with e1 e2 e3
            subst e1
            subst e2
            obtain ⟨G', hG'⟩ : ∃ G', (if b then G ++ [(x.c, x.k)] else G) = G' := ⟨_, rfl⟩
            have hGl : G'.length ≤ i + 1 := by
              rw [← hG']
              split
              · rw [List.length_append, List.length_singleton]; omega
              · omega
            rw [hG'] at hy5
            have hx'x : x' = x := by
              have h9 := hts.out
              have h8 := take_snoc hxi'
              rw [← h9] at h8
              have := List.append_cancel_left h8
              injection this
            subst hx'x
            have hadr := Lib.hid (add_ref w2 (putL wc p4 yv) q va vb (K.take i) G x' b hm5 he5 (by rw [hlen.out]; omega) (by omega))
            have hfin := Lib.hid (show ∀ (w7 : World) (va' vb' : Value), RfM w2 w7 q va' vb' (if canI (K.take i) x' = true then K.take i ++ [x'] else K.take i) (if (canI (K.take i) x' && b) = true then G ++ [(x'.c, x'.k)] else G) → nxB (putL wc p4 yv) va va' → nxB (putL wc p4 yv) vb vb' → TS (lmB q va vb) (putL wc p4 yv) w7 → PcsRel Ls w2 p4 q K (Vi ((i + 1 : Nat) : Int)) w7 from fun w7 va' vb' hR7 hn1 hn2 ht7 => by
              rw [hca.out, if_pos rfl, Bool.true_and, hG', hts.out] at hR7
              rw [hts.out] at hy5
              exact ⟨i + 1, F1, yv, va', vb', G', rfl, by rw [hk.out]; omega, hGl, Lib.hid (b45.ts ht7 hlv), Lib.hid (M.ts hy5 ht7 (fun b' hb => (h1p b' hb).1)), Lib.hid hR7, Lib.hid (fun b' hb => ⟨lm_next (h1p b' hb).1 hn1 hn2 (M.lt hy5 hb), (h1p b' hb).2⟩), Lib.hid (lm_next hlv hn1 hn2 b45.lt), Lib.hid (ht7.down he5 (fun j9 hj9 => (hm5.low j9 hj9).1))⟩)
            have f0 := b4c.thaw 0
            have f1 := b4c.thaw 1
            have f2 := b4c.thaw 2
            have f3 := b4c.thaw 3
            have f4 := b4c.thaw 4
            have f5 := b4c.thaw 5
            have f6 := b4c.thaw 6
            have f7 := b4c.thaw 7
            have f8 := b4c.thaw 8
            obtain ⟨g0, g1, g2, g3, g4, g5, g6, g7, g8⟩ := b4c.cells
            obtain ⟨k0, k1, k2, k3, k4, k5, k6, k7, k8⟩ := by'.cells
            obtain ⟨c0, c1, c2, c3, c4, c5, c6⟩ := dc
            dsimp only [putL] at c0 c1 c2 c3 c4 c5 c6
            clear b4 hx hm hs he xc hy hF1 hFp b45 hm5 he5 hy5 b4c by' hGl hG' hxi'
            go_wp2_with fail
            refine hadr.out.mono ?_
            rintro e w7 ⟨rfl, va', vb', hR7, hn1, hn2, ht7⟩
            have hf7 := Lib.hid (hfin.out w7 va' vb' hR7 hn1 hn2 ht7)
            clear hR7 hn1 hn2 ht7
            go_wp2_with fail
            go_roundw
            case rel => exact hf7.out
            case measure => simp [intOf]; omega
    · have hik : i = k := by omega
      rw [show K.take i = K by rw [hik, ← hk.out]; exact List.take_length] at hx hm
      have hent := Lib.hid (entries_ref q K G wr hm.out.read hkm.out (by rw [hk.out]; omega) (by omega))
      have hsl : (shownE (entL K G)).length ≤ k := by
        have := shown_len (entL K G) 0
        rw [entL_len hkm.out, hk.out] at this
        exact this
      have hEl : (entL K G).length ≤ 10000 := by rw [entL_len hkm.out, hk.out]; omega
      have hb1 := Lib.hid (fun (k' : Nat) (W : World) (hW : Ext wr W) (hk' : k' ≤ (shownE (entL K G)).length) => M.between F W (lsv xv) K G k' (M.ext hx.out hW) (by rw [hk.out]; omega) (by omega) hk')
      have hb2 := Lib.hid (fun (W : World) (hW : Ext wr W) (hno : zk < 0 ∨ ((shownE (entL K G)).length : Int) < zk) => M.betweenNo F W (lsv xv) K G zk (M.ext hx.out hW) (by rw [hk.out]; omega) (by omega) hzk hno)
      have hb3 := Lib.hid (fun (a m : Nat) (W : World) (hW : Ext wr W) (h' : a + m ≤ (shownE (entL K G)).length) => M.shown F W (lsv xv) K G a m (M.ext hx.out hW) (by rw [hk.out]; omega) (by omega) h')
      have hb4 := Lib.hid (fun (W : World) (hW : Ext wr W) (hno : zk < 0 ∨ zn < 0 ∨ ((shownE (entL K G)).length : Int) < zk ∨ ((shownE (entL K G)).length : Int) - zk < zn) => M.shownNo F W (lsv xv) K G zk zn (M.ext hx.out hW) (by rw [hk.out]; omega) (by omega) hzk hzn hno)
      have hbx := b4.out
      replace he := Lib.hid he.out
      clear hx hm hs h4 b4 hM2' hp2 hkc hkw
      generalize entL K G = E at *
      go_wp2_with fail
      refine hent.out.mono ?_
      rintro e w5 ⟨v5, rfl, o5, x5⟩
      obtain ⟨B, cB, rfl, hcB, hE5⟩ := o5.open
      obtain ⟨ne, hne⟩ : ∃ m, E.length = m := ⟨_, rfl⟩
      rw [hne] at hcB hEl ⊢
      obtain ⟨a1, a2, c1, c2, ok1, er1, hbp, hbr, hw1⟩ : ∃ (a1 a2 c1 c2 : Int) (ok : Bool) (er : Value), Hid (∀ W, Ext wr W → Calls Try.prog 17 #[lsv xv, Vi zk] W fun e w' => e = .returned (.tuple #[idv a1 a2, idv c1 c2, er]) ∧ Ext W w') ∧
          Hid (∀ W, Ext w5 W → Calls Try.prog 18 #[.slice B ne cB, Vi zk] W fun e w' => e = .returned (.tuple #[idv a1 a2, idv c1 c2, .bool ok]) ∧ Ext W w') ∧ (ok = true ∧ er = .nilIface ∨ ok = false ∧ er = errv 3) := by
        by_cases hz : zk < 0 ∨ ((shownE E).length : Int) < zk
        · exact ⟨0, 0, 0, 0, false, errv 3, Lib.hid fun W hW => hb2.out W hW hz, Lib.hid fun W hW => between_no B ne cB E zk W (hE5.ext hW) hne hEl hz, .inr ⟨rfl, rfl⟩⟩
        · obtain ⟨k', rfl⟩ : ∃ k' : Nat, zk = (k' : Int) := ⟨zk.toNat, by omega⟩
          have hk' : k' ≤ (shownE E).length := by omega
          exact ⟨_, _, _, _, true, .nilIface, Lib.hid fun W hW => hb1.out k' W hW hk', Lib.hid fun W hW => between_ref B ne cB E k' W (hE5.ext hW) hne hEl hk', .inl ⟨rfl, rfl⟩⟩
      obtain ⟨O, ok2, er2, hol, hsp, hsr, hw2⟩ : ∃ (O : List I2) (ok : Bool) (er : Value), O.length ≤ k ∧ Hid (∀ W, Ext wr W → Calls Try.prog 19 #[lsv xv, Vi zk, Vi zn] W fun e w' => ∃ A c, e = .returned (.tuple #[.slice A O.length c, er]) ∧ OdS w' A O ∧ Ext W w') ∧
          Hid (∀ W, Ext w5 W → Calls Try.prog 20 #[.slice B ne cB, Vi zk, Vi zn] W fun e w' => ∃ A c, e = .returned (.tuple #[.slice A O.length c, .bool ok]) ∧ OdS w' A O ∧ Ext W w') ∧ (ok = true ∧ er = .nilIface ∨ ok = false ∧ er = errv 3) := by
        by_cases hz : zk < 0 ∨ zn < 0 ∨ ((shownE E).length : Int) < zk ∨ ((shownE E).length : Int) - zk < zn
        · exact ⟨[], false, errv 3, Nat.zero_le _, Lib.hid fun W hW => (hb4.out W hW hz).mono (by rintro e w' ⟨A', c', rfl, x'⟩; exact ⟨A', c', rfl, OdS.nil _ _, x'⟩), Lib.hid fun W hW => (ids_ref_no B ne cB E zk zn W (hE5.ext hW) hne hEl hz).mono (by rintro e w' ⟨rfl, x'⟩; exact ⟨none, 0, rfl, OdS.nil _ _, x'⟩), .inr ⟨rfl, rfl⟩⟩
        · obtain ⟨k', rfl⟩ : ∃ k' : Nat, zk = (k' : Int) := ⟨zk.toNat, by omega⟩
          obtain ⟨n', rfl⟩ : ∃ n' : Nat, zn = (n' : Int) := ⟨zn.toNat, by omega⟩
          have hk' : k' + n' ≤ (shownE E).length := by omega
          have hn' : (idsE E k' n').length ≤ k := by have := idsE_len E k' n'; omega
          refine ⟨idsE E k' n', true, .nilIface, hn', Lib.hid fun W hW => hb3.out k' n' W hW hk', Lib.hid fun W hW => (ids_ref B ne cB E k' n' W (hE5.ext hW) hne hEl hk').mono ?_, .inl ⟨rfl, rfl⟩⟩
          rintro e w' ⟨v', rfl, o', x'⟩
          obtain ⟨A', c', rfl, _, hA'⟩ := o'.open
          exact ⟨A', c', rfl, hA', x'⟩
      clear hb1 hb2 hb3 hb4 hent hsl hE5 o5 hne
      obtain ⟨g0, g1, g2, g3, g4, g5, g6, g7, g8⟩ := (hbx.ext x5).cells
      go_wp2_with fail
      refine (hbp.out _ x5).mono ?_
      rintro e w6 ⟨rfl, x6⟩
      have b19 := (BoxO.new w6 a1 a2).ext ((Ext.refl _).alloc (.cells #[.int .u32 c1, .int .u32 c2] 41))
      have b20 := BoxO.new (w6.alloc (.cells #[.int .u32 a1, .int .u32 a2] 41)) c1 c2
      rw [show (w6.alloc (.cells #[.int .u32 a1, .int .u32 a2] 41)).heap.size = w6.heap.size + 1 by simp] at b20
      have xs : Ext w6 ((w6.alloc (.cells #[.int .u32 a1, .int .u32 a2] 41)).alloc (.cells #[.int .u32 c1, .int .u32 c2] 41)) := ((Ext.refl _).alloc _).alloc _
      clear g0 g1 g2 g3 g4 g5 g6 g7 g8
      go_wp2_with fail
      generalize (w6.alloc (.cells #[.int .u32 a1, .int .u32 a2] 41)).alloc (.cells #[.int .u32 c1, .int .u32 c2] 41) = w7 at *
      obtain ⟨p20, h20⟩ : ∃ p, w6.heap.size + 1 = p := ⟨_, rfl⟩
      obtain ⟨p19, h19⟩ : ∃ p, w6.heap.size = p := ⟨_, rfl⟩
      rw [h20] at b20 ⊢
      rw [h19] at b19 ⊢
      clear h19 h20
      have x57 := x6.trans xs
      refine (hbr.out _ x57).mono ?_
      rintro e w8 ⟨rfl, x8⟩
      have b22 := (BoxO.new w8 a1 a2).ext ((Ext.refl _).alloc (.cells #[.int .u32 c1, .int .u32 c2] 41))
      have b23 := BoxO.new (w8.alloc (.cells #[.int .u32 a1, .int .u32 a2] 41)) c1 c2
      rw [show (w8.alloc (.cells #[.int .u32 a1, .int .u32 a2] 41)).heap.size = w8.heap.size + 1 by simp] at b23
      have xs2 : Ext w8 ((w8.alloc (.cells #[.int .u32 a1, .int .u32 a2] 41)).alloc (.cells #[.int .u32 c1, .int .u32 c2] 41)) := ((Ext.refl _).alloc _).alloc _
      have x79 := x8.trans xs2
      have x59 := x57.trans x79
      have xr9 := x5.trans x59
      replace b19 := b19.ext x79
      replace b20 := b20.ext x79
      obtain ⟨g0, g1, g2, g3, g4, g5, g6, g7, g8⟩ := (hbx.ext xr9).cells
      clear xs xs2 x6 x8 x57
      go_wp2_with fail
      generalize (w8.alloc (.cells #[.int .u32 a1, .int .u32 a2] 41)).alloc (.cells #[.int .u32 c1, .int .u32 c2] 41) = w9 at *
      obtain ⟨p23, h23⟩ : ∃ p, w8.heap.size + 1 = p := ⟨_, rfl⟩
      obtain ⟨p22, h22⟩ : ∃ p, w8.heap.size = p := ⟨_, rfl⟩
      rw [h23] at b23 ⊢
      rw [h22] at b22 ⊢
      clear h22 h23
      refine (hsp.out _ xr9).mono ?_
      rintro e w10 ⟨A10, c10, rfl, hO10, x10⟩
      clear g0 g1 g2 g3 g4 g5 g6 g7 g8
      go_wp2_with fail
      refine (hsr.out _ (x59.trans x10)).mono ?_
      rintro e w11 ⟨A11, c11, rfl, hO11, x11⟩
      obtain ⟨ol, hole⟩ : ∃ m, O.length = m := ⟨_, rfl⟩
      rw [hole] at hol ⊢
      have hsm := Lib.hid (sameO_ref A10 A11 ol ol c10 c11 O O w11 (hO10.ext x11) hO11 hole hole (by omega) (by omega))
      rw [show decide (O = O) = true from decide_eq_true rfl] at hsm
      have x911 := x10.trans x11
      clear hbp hbr hsp hsr hO10 hO11 hole x10 x11
      go_wp2_with fail
      refine hsm.out.mono ?_
      rintro e w12 ⟨rfl, x12⟩
      have x912 := x911.trans x12
      obtain ⟨i0, i1, _, _⟩ := (b19.ext x912).cells
      obtain ⟨j0, j1, _, _⟩ := (b20.ext x912).cells
      obtain ⟨k0, k1, _, _⟩ := (b22.ext x912).cells
      obtain ⟨l0, l1, _, _⟩ := (b23.ext x912).cells
      have hE : Ext w w12 := ((xw2.trans he.out).trans xr9).trans x912
      have hq1 : ∀ W : World, (binOp .eql 41 (.agg #[.int .u32 a1, .int .u32 a2]) (.agg #[.int .u32 a1, .int .u32 a2])).run Try.prog W = .ok (.bool true) W := fun W => by rw [idT_eql]; simp
      have hq2 : ∀ W : World, (binOp .eql 41 (.agg #[.int .u32 c1, .int .u32 c2]) (.agg #[.int .u32 c1, .int .u32 c2])).run Try.prog W = .ok (.bool true) W := fun W => by rw [idT_eql]; simp
      clear b19 b20 b22 b23 hbx x912 x911 x12 xr9 x59 x79 x5 hsm
      rcases hw1 with ⟨rfl, rfl⟩ | ⟨rfl, rfl⟩
      · rcases hw2 with ⟨rfl, rfl⟩ | ⟨rfl, rfl⟩
        · go_wp2
          go_ret
          exact ⟨rfl, hE⟩
        · go_wp2_with fail
          refine (code_any 3 _ (by omega) (by omega)).mono ?_
          rintro e w13 ⟨rfl, rfl⟩
          go_wp2
          go_ret
          exact ⟨rfl, hE⟩
      · go_wp2_with fail
        refine (code_any 3 _ (by omega) (by omega)).mono ?_
        rintro e w13 ⟨rfl, rfl⟩
        rcases hw2 with ⟨rfl, rfl⟩ | ⟨rfl, rfl⟩
        · go_wp2
          go_ret
          exact ⟨rfl, hE⟩
        · go_wp2_with fail
          refine (code_any 3 _ (by omega) (by omega)).mono ?_
          rintro e w13 ⟨rfl, rfl⟩
          go_wp2
          go_ret
          exact ⟨rfl, hE⟩
end Go.Proofs.Ytmpomammieenjaa
