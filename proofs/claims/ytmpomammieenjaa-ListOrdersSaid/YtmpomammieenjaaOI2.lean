/-
  Several texts of this seat in one file, each in the namespace again; no claim stands here.
-/
import Derived.Deep.DeepCutAuto
import Derived.Deep.RegionWith
import Derived.IntWalk
import Derived.Test.YtmpomammieenjaaOH2
import Derived.Test.YtmpomammieenjaaOD2
import Derived.Test.YtmpomammieenjaaOF2
import Derived.Test.YtmpomammieenjaaOS
import Derived.Test.YtmpomammieenjaaTBtL
namespace Go.Proofs.Ytmpomammieenjaa
open Go.ChangeShapes Go.WideShapes Go.ChangeAt Go.RowKit Go.Sort
set_option linter.unusedVariables false
set_option linter.unusedSimpArgs false
attribute [local go_sem] World.cell?_alloc_some

theorem TS.rx {S : Nat → Prop} {p : Nat} {a b c : World} (h : TS S a b) (k : RX p b c) (hp : p < a.heap.size → S p) : TS S a c := h.on k (fun j e hj => by injection e with e; subst e; exact hp hj)
theorem RfM.rx {w0 W W' : World} {q p : Nat} {va vb : Value} {L : List It} {G : List I2} (h : RfM w0 W q va vb L G) (hx : RX p W W') (hp : ¬ lmB q va vb p) : RfM w0 W' q va vb L G :=
  ⟨hx.blk h.box (fun e => hp (.inl e.symm)), h.oi.kept hx (.inr fun e => hp (.inr (.inl e))), h.oo.kept hx (.inr fun e => hp (.inr (.inr e))), h.lq, h.qa, h.qb, h.ab⟩
theorem LsW.ts {Ls : (Nat → Prop) → World → Value → List It → List I2 → Prop} (M : LsW Ls) {F S : Nat → Prop} {W W' : World} {v : Value} {L : List It} {G : List I2} (h : Ls F W v L G) (hx : TS S W W') (hs : ∀ b, F b → ¬ S b) : Ls F W' v L G :=
  M.frame h (fun b hb => hx.block b (M.lt h hb) (hs b hb))
theorem LsW.rx {Ls : (Nat → Prop) → World → Value → List It → List I2 → Prop} (M : LsW Ls) {F : Nat → Prop} {p : Nat} {W W' : World} {v : Value} {L : List It} {G : List I2} (h : Ls F W v L G) (hx : RX p W W') (hs : ∀ b, F b → b ≠ p) : Ls F W' v L G :=
  M.frame h (fun b hb => World.grownBy.block hx b (M.lt h hb) (fun e => hs b hb (by injection e)))
theorem lm_next {q : Nat} {va vb va' vb' : Value} {w : World} {b : Nat} (h : ¬ lmB q va vb b) (n1 : nxB w va va') (n2 : nxB w vb vb') (hb : b < w.heap.size) : ¬ lmB q va' vb' b := by
  rintro (e | e | e)
  · exact h (.inl e)
  · rcases n1 with h1 | ⟨g, h1, hg⟩
    · exact h (.inr (.inl (by rw [← h1]; exact e)))
    · rw [h1] at e; injection e with e; omega
  · rcases n2 with h1 | ⟨g, h1, hg⟩
    · exact h (.inr (.inr (by rw [← h1]; exact e)))
    · rw [h1] at e; injection e with e; omega
theorem BxL.rx {W W' : World} {q p : Nat} {x : Lv} (h : BxL W q x) (hx : RX p W W') (hn : q ≠ p) : BxL W' q x := hx.blk h hn
theorem BxD.rx {W W' : World} {q p : Nat} {x : De} (h : BxD W q x) (hx : RX p W W') (hn : q ≠ p) : BxD W' q x := hx.blk h hn
theorem BxD.ts {W W' : World} {q : Nat} {x : De} {S : Nat → Prop} (h : BxD W q x) (hx : TS S W W') (hn : ¬ S q) : BxD W' q x := hx.blk h hn

structure PcC (Ls : (Nat → Prop) → World → Value → List It → List I2 → Prop) (w0 : World) (p4 q p7 p9 : Nat) (d : De) (xv : Lv) (L : List It) (G : List I2) (F : Nat → Prop) (yv : Lv) (va vb : Value) (L' : List It) (G' : List I2) (W : World) : Prop where
  b4 : BxL W p4 xv
  b9 : BxL W p9 yv
  b7 : BxD W p7 d
  x : Ls F W (lsv xv) L G
  m : RfM w0 W q va vb L' G'
  sx : ∀ b, F b → ¬ lmB q va vb b ∧ b ≠ p4
  s4 : ¬ lmB q va vb p4
  e : Ext w0 W
structure PdC (Ls : (Nat → Prop) → World → Value → List It → List I2 → Prop) (w0 : World) (p4 q p7 p9 : Nat) (d : De) (xv : Lv) (L : List It) (G : List I2) (F : Nat → Prop) (z9 : Lv) (va vb : Value) (W : World) : Prop extends PcC Ls w0 p4 q p7 p9 d xv L G F z9 va vb L G W where
  f9 : ∀ b, F b → b ≠ p9
  s9 : ¬ lmB q va vb p9
  s7 : ¬ lmB q va vb p7
  h49 : p4 ≠ p9
  h79 : p7 ≠ p9
  l9 : w0.heap.size ≤ p9
theorem PdC.ext {Ls : (Nat → Prop) → World → Value → List It → List I2 → Prop} (M : LsW Ls) {w0 W W' : World} {p4 q p7 p9 : Nat} {d : De} {xv : Lv} {L : List It} {G : List I2} {F : Nat → Prop} {z9 : Lv} {va vb : Value} (h : PdC Ls w0 p4 q p7 p9 d xv L G F z9 va vb W) (hx : Ext W W') : PdC Ls w0 p4 q p7 p9 d xv L G F z9 va vb W' :=
  { b4 := h.b4.ext hx, b9 := h.b9.ext hx, b7 := h.b7.ext hx, x := M.ext h.x hx, m := h.m.ext hx, sx := h.sx, s4 := h.s4, e := h.e.trans hx, f9 := h.f9, s9 := h.s9, s7 := h.s7, h49 := h.h49, h79 := h.h79, l9 := h.l9 }
theorem PdC.put {Ls : (Nat → Prop) → World → Value → List It → List I2 → Prop} (M : LsW Ls) {w0 W : World} {p4 q p7 p9 : Nat} {d : De} {xv : Lv} {L : List It} {G : List I2} {F : Nat → Prop} {z9 : Lv} {va vb : Value} (h : PdC Ls w0 p4 q p7 p9 d xv L G F z9 va vb W) (yv : Lv) : PdC Ls w0 p4 q p7 p9 d xv L G F yv va vb (putL W p9 yv) :=
  { b4 := h.b4.rx (putL_rx W p9 yv) h.h49, b9 := h.b9.put yv, b7 := h.b7.rx (putL_rx W p9 yv) h.h79, x := M.rx h.x (putL_rx W p9 yv) h.f9, m := h.m.rx (putL_rx W p9 yv) h.s9, sx := h.sx, s4 := h.s4, e := RX.down h.e h.l9 (putL_rx W p9 yv), f9 := h.f9, s9 := h.s9, s7 := h.s7, h49 := h.h49, h79 := h.h79, l9 := h.l9 }
theorem PdC.deed {Ls : (Nat → Prop) → World → Value → List It → List I2 → Prop} (M : LsW Ls) {w0 W W' : World} {p4 q p7 p9 : Nat} {d : De} {xv : Lv} {L L' : List It} {G G' : List I2} {F : Nat → Prop} {yv : Lv} {va vb va' vb' : Value} (h : PdC Ls w0 p4 q p7 p9 d xv L G F yv va vb W)
    (hm : RfM w0 W' q va' vb' L' G') (n1 : nxB W va va') (n2 : nxB W vb vb') (ht : TS (lmB q va vb) W W') : PcC Ls w0 p4 q p7 p9 d xv L G F yv va' vb' L' G' W' :=
  { b4 := h.b4.ts ht h.s4, b9 := h.b9.ts ht h.s9, b7 := h.b7.ts ht h.s7, x := M.ts h.x ht (fun b hb => (h.sx b hb).1), m := hm, sx := fun b hb => ⟨lm_next (h.sx b hb).1 n1 n2 (M.lt h.x hb), (h.sx b hb).2⟩, s4 := lm_next h.s4 n1 n2 h.b4.lt, e := ht.down h.e (fun k hk => (h.m.low k hk).1) }
theorem PdC.next {Ls : (Nat → Prop) → World → Value → List It → List I2 → Prop} (M : LsW Ls) {w0 W W1 W' : World} {p4 q p7 p9 : Nat} {d : De} {xv yv z9 : Lv} {L L' : List It} {G G' : List I2} {F F' : Nat → Prop} {va vb va' vb' : Value} (h : PdC Ls w0 p4 q p7 p9 d xv L G F z9 va vb W) (x1 : Ext W W1)
    (hy : Ls F' W1 (lsv yv) L' G') (hF : ∀ b, F' b → F b ∨ W.heap.size ≤ b) (n1 : nxB (putL W1 p9 yv) va va') (n2 : nxB (putL W1 p9 yv) vb vb') (ht : TS (lmB q va vb) (putL W1 p9 yv) W') : Ls F' W' (lsv yv) L' G' ∧ ∀ b, F' b → ¬ lmB q va' vb' b ∧ b ≠ p4 := by
  have h1 : ∀ b, F' b → ¬ lmB q va vb b ∧ b ≠ p4 ∧ b ≠ p9 := fun b hb => by
    rcases hF b hb with e | e
    · exact ⟨(h.sx b e).1, (h.sx b e).2, h.f9 b e⟩
    · refine ⟨fun k => by have := (h.m.low b k).2; omega, fun k => by have := h.b4.lt; omega, fun k => by have := h.b9.lt; omega⟩
  have h2 := M.rx hy (putL_rx W1 p9 yv) (fun b hb => (h1 b hb).2.2)
  exact ⟨M.ts h2 ht (fun b hb => (h1 b hb).1), fun b hb => ⟨lm_next (h1 b hb).1 n1 n2 (M.lt h2 hb), (h1 b hb).2.1⟩⟩

end Go.Proofs.Ytmpomammieenjaa

namespace Go.Proofs.Ytmpomammieenjaa
set_option linter.unusedVariables false
set_option linter.unusedSimpArgs false

theorem knL_mem (l : List It) : ∀ x ∈ knL l, x ∈ l ∧ okB x.ch = true := by
  have key : ∀ (r o : List It), (∀ x ∈ o, x ∈ l ∧ okB x.ch = true) → (∀ x ∈ r, x ∈ l) → ∀ x ∈ r.foldl stepK o, x ∈ l ∧ okB x.ch = true := by
    intro r
    induction r with
    | nil => intro o ho _; exact ho
    | cons y r ih =>
      intro o ho hr
      rw [List.foldl_cons]
      refine ih _ ?_ (fun x hx => hr x (List.mem_cons_of_mem _ hx))
      unfold stepK
      split
      · rename_i h
        rw [Bool.and_eq_true] at h
        intro x hx
        rcases List.mem_append.1 hx with hx | hx
        · exact ho x hx
        · rw [List.mem_singleton] at hx
          subst hx
          exact ⟨hr x (List.mem_cons_self ..), h.2⟩
      · exact ho
  exact key l [] (by simp) (fun x hx => hx)
theorem canI_at {K : List It} (hk : knownI K = true) {i : Nat} {x : It} (hx : K[i]? = some x) (hc : okB x.ch = true) : canI (K.take i) x = true := by
  rw [canI_is, (known_at hk hx).1, hc]; rfl
theorem take_snoc {α : Type} {K : List α} {i : Nat} {x : α} (hx : K[i]? = some x) : K.take i ++ [x] = K.take (i + 1) := by
  rw [List.take_add_one, hx]; rfl
end Go.Proofs.Ytmpomammieenjaa

namespace Go.Proofs.Ytmpomammieenjaa
open Go.ChangeShapes Go.WideShapes Go.ChangeAt Go.RowKit Go.Sort
set_option linter.unusedVariables false
set_option linter.unusedSimpArgs false

def KL (Ls : (Nat → Prop) → World → Value → List It → List I2 → Prop) (w a b : World) : Prop := (Ext w a → Ext w b) ∧ ∀ (F : Nat → Prop) (v : Value) (L : List It) (G : List I2), Ls F a v L G → ∃ F' : Nat → Prop, (∀ b, F' b → F b) ∧ Ls F' b v L G
theorem KL.trans {Ls : (Nat → Prop) → World → Value → List It → List I2 → Prop} {w a b c : World} (h : KL Ls w a b) (k : KL Ls w b c) : KL Ls w a c :=
  ⟨fun x => k.1 (h.1 x), fun F v L G hI => by
    obtain ⟨F1, h1, h2⟩ := h.2 F v L G hI
    obtain ⟨F2, h3, h4⟩ := k.2 F1 v L G h2
    exact ⟨F2, fun b hb => h1 b (h3 b hb), h4⟩⟩
theorem KL.ext {Ls : (Nat → Prop) → World → Value → List It → List I2 → Prop} (M : LsW Ls) {w a b : World} (h : Ext a b) : KL Ls w a b := ⟨fun x => x.trans h, fun F v L G hI => ⟨F, fun _ hb => hb, M.ext hI h⟩⟩
def NewV (Ls : (Nat → Prop) → World → Value → List It → List I2 → Prop) (F : Nat → Prop) (s : Nat) (L : List It) (G : List I2) (W : World) (yv : Lv) : Prop := ∃ F1 : Nat → Prop, Ls F1 W (lsv yv) L G ∧ ∀ b, F1 b → F b ∨ s ≤ b
theorem NewV.ext {Ls : (Nat → Prop) → World → Value → List It → List I2 → Prop} (M : LsW Ls) {F : Nat → Prop} {s : Nat} {L : List It} {G : List I2} {W W' : World} {yv : Lv} (h : NewV Ls F s L G W yv) (hx : Ext W W') : NewV Ls F s L G W' yv := by
  obtain ⟨F1, h1, h2⟩ := h
  exact ⟨F1, M.ext h1 hx, h2⟩
theorem NewV.kl {Ls : (Nat → Prop) → World → Value → List It → List I2 → Prop} {F : Nat → Prop} {s : Nat} {L : List It} {G : List I2} {w W W' : World} {yv : Lv} (h : NewV Ls F s L G W yv) (hx : KL Ls w W W') : NewV Ls F s L G W' yv := by
  obtain ⟨F1, h1, h2⟩ := h
  obtain ⟨F2, h3, h4⟩ := hx.2 F1 _ _ _ h1
  exact ⟨F2, h4, fun b hb => h2 b (h3 b hb)⟩
def NewPL (Ls : (Nat → Prop) → World → Value → List It → List I2 → Prop) (F : Nat → Prop) (s : Nat) (L : List It) (G : List I2) (v : Value) (W : World) : Prop :=
  ∃ (p : Nat) (yv : Lv) (F1 : Nat → Prop), v = .pointer (some ⟨p, 0, none⟩) ∧ s ≤ p ∧ BxL W p yv ∧ Ls F1 W (lsv yv) L G ∧ (∀ b, F1 b → F b ∨ s ≤ b) ∧ (∀ b, F1 b → b ≠ p)
theorem NewPL.ext {Ls : (Nat → Prop) → World → Value → List It → List I2 → Prop} (M : LsW Ls) {F : Nat → Prop} {s : Nat} {L : List It} {G : List I2} {v : Value} {W W' : World} (h : NewPL Ls F s L G v W) (hx : Ext W W') : NewPL Ls F s L G v W' := by
  obtain ⟨p, yv, F1, h1, h2, h3, h4, h5, h6⟩ := h
  exact ⟨p, yv, F1, h1, h2, h3.ext hx, M.ext h4 hx, h5, h6⟩
theorem putL_new {Ls : (Nat → Prop) → World → Value → List It → List I2 → Prop} (M : LsW Ls) {F : Nat → Prop} {s q : Nat} {L : List It} {G : List I2} {w W : World} {yv : Lv} (hs : w.heap.size ≤ s) (hq : s ≤ q) (hz : BxL W q zLv) (h : NewV Ls F s L G W yv) :
    KL Ls w W (putL W q yv) ∧ NewPL Ls F s L G (.pointer (some ⟨q, 0, none⟩)) (putL W q yv) := by
  have hfr : ∀ b, b ≠ q → b < W.heap.size → (putL W q yv).heap[b]? = W.heap[b]? := fun b hb hl => (show W.grownBy (putL W q yv) (some q) from putL_rx _ _ _).block b hl (fun e => hb (by injection e))
  have hst : ∀ (F : Nat → Prop) (v : Value) (L : List It) (G : List I2), Ls F W v L G → Ls (fun b => F b ∧ b ≠ q) (putL W q yv) v L G := fun F v L G hI => M.frame (M.avoid hI hz) (fun b hb => hfr b hb.2 (M.lt hI hb.1))
  refine ⟨⟨fun x => RX.down x (Nat.le_trans hs hq) (putL_rx _ _ _), fun F v L G hI => ⟨_, fun b hb => hb.1, hst F v L G hI⟩⟩, ?_⟩
  obtain ⟨F1, h1, h2⟩ := h
  exact ⟨q, yv, _, rfl, hq, hz.put yv, hst _ _ _ _ h1, fun b hb => h2 b hb.1, fun b hb => hb.2⟩
end Go.Proofs.Ytmpomammieenjaa

namespace Go.Proofs.Ytmpomammieenjaa
open Go.ChangeShapes Go.WideShapes Go.ChangeAt Go.RowKit Go.Sort
set_option linter.unusedVariables false
set_option linter.unusedSimpArgs false

def ZsR (w : World) (A : Option Addr) (l : List Int) : Prop := Row w A (l.map Vi)
set_option maxRecDepth 100000 in
theorem intsR_open {H : Type} {enc : TypeId × Value → H} {W : World} {base b0 : Nat} {sp : Nat → Bool} {hd : Bool} {r : Reach} {v : Value} {d : DataW H} {p : List MemPlace} (hv : Value.okWide Try.prog W r b0 58 v) (h : DataW.Trod enc Try.prog W base sp hd 58 v d p) :
    ∃ (A : Option Addr) (n cap : Nat) (l : List Int), v = .slice A n cap ∧ l.length = n ∧ ZsR W A l := by
  obtain ⟨a, len, cap, rfl⟩ := okWide_slice Try.underlying58 hv
  obtain ⟨fuel, hf⟩ := h
  have hf' : DataW.trod enc Try.prog W base sp hd fuel 58 [.slice a len cap] = some (d, p) := hf
  have ce : Try.prog.cellsOf 3 = 1 := by kernel_rfl
  rcases open_ints Try.underlying58 Try.underlying3 ce hf' with ⟨e, _⟩ | ⟨a', len', cap', zl, e, _, hl, _, hz, _, hc, _⟩
  · injection e with e
    injection e with e1 e2 e3
    subst e1
    subst e2
    subst e3
    exact ⟨_, _, _, [], rfl, rfl, Row.nil _ _⟩
  · injection e with e
    injection e with e1 e2 e3
    subst e1
    subst e2
    subst e3
    have hml : len ≤ zl.length := by rw [hz]; split <;> omega
    refine ⟨some a', len, cap, zl.take len, rfl, by rw [List.length_take]; omega, ?_⟩
    intro h0
    have hlen : 0 < len := by simp at h0; omega
    have g0 := hc 0 (by omega)
    obtain ⟨b, o, spot⟩ := a'
    have hspot : spot = none := by simpa [Addr.add] using World.cell?_spot g0
    subst hspot
    refine ⟨b, o, rfl, fun j u hu => ?_⟩
    have hj : j < len := by
      have := (List.getElem?_eq_some_iff.1 hu).1
      rw [List.length_map, List.length_take] at this
      omega
    have hcj := hc j (by omega)
    rw [add_at] at hcj
    rw [hcj, ← hu, List.getElem?_map, List.getElem?_take, if_pos hj, List.getElem?_eq_getElem (by omega), List.getD_eq_getElem?_getD, List.getElem?_eq_getElem (by omega)]
    rfl

end Go.Proofs.Ytmpomammieenjaa

namespace Go.Proofs.Ytmpomammieenjaa
open Go.ChangeShapes Go.WideShapes Go.ChangeAt Go.RowKit Go.Sort
set_option linter.unusedVariables false
set_option linter.unusedSimpArgs false
attribute [local go_sem] World.cell?_alloc_some

theorem ZsR.ext {w w' : World} {A : Option Addr} {l : List Int} (h : ZsR w A l) (hx : Ext w w') : ZsR w' A l := Row.ext h hx
theorem ZsR.at {w : World} {A : Option Addr} {l : List Int} (h : ZsR w A l) {k : Nat} {z : Int} (hk : l[k]? = some z) : ∃ b o, A = some ⟨b, o, none⟩ ∧ w.cell? ⟨b, o + k, none⟩ = some (Vi z) := by
  have hkl := (List.getElem?_eq_some_iff.1 hk).1
  obtain ⟨b, o, e, hc⟩ := h (by rw [List.length_map]; omega)
  exact ⟨b, o, e, hc k _ (by rw [List.getElem?_map, hk]; rfl)⟩
def NewL (Ls : (Nat → Prop) → World → Value → List It → List I2 → Prop) (F : Nat → Prop) (wr : World) (L : List It) (G : List I2) (s e : Value) (W : World) : Prop :=
  ∃ (p : Nat) (yv : Lv) (F1 : Nat → Prop), s = .pointer (some ⟨p, 0, none⟩) ∧ e = .nilIface ∧ BxL W p yv ∧ Ls F1 W (lsv yv) L G ∧ (∀ b, F1 b → F b ∨ wr.heap.size ≤ b) ∧ (∀ b, F1 b → b ≠ p) ∧ wr.heap.size ≤ p ∧ Ext wr W
theorem NewL.after {Ls : (Nat → Prop) → World → Value → List It → List I2 → Prop} (M : LsW Ls) {F F1 : Nat → Prop} {wr w3 : World} {L : List It} {G : List I2} {yv : Lv} (x3 : Ext wr.drew w3) (hL1 : Ls F1 w3 (lsv yv) L G) (hF1 : ∀ b, F1 b → F b ∨ wr.drew.heap.size ≤ b) :
    NewL Ls F wr L G (.pointer (some ⟨w3.heap.size, 0, none⟩)) .nilIface (w3.alloc (.cells #[.slice yv.A yv.n yv.c, .pointer yv.l, .pointer yv.r, Vi yv.h, Vi yv.m, Vi yv.s, Vq yv.lo, Vq yv.hi, .pointer yv.p] 33)) :=
  ⟨w3.heap.size, yv, F1, rfl, rfl, BxL.new w3 yv, M.ext hL1 ((Ext.refl _).alloc _), hF1, fun b hb => by have := M.lt hL1 hb; omega, x3.size, ((Ext.refl wr).drew.trans x3).alloc _⟩
theorem NewL.before {Ls : (Nat → Prop) → World → Value → List It → List I2 → Prop} (M : LsW Ls) {F F1 : Nat → Prop} {wr w3 : World} {L : List It} {G : List I2} {yv : Lv} (hF : ∀ b, F b → b < wr.heap.size) (x3 : Ext (wr.alloc (.cells #[.slice none 0 0, .pointer none, .pointer none, Vi 0, Vi 0, Vi 0, Vq 0, Vq 0, .pointer none] 33)).drew w3) (hL1 : Ls F1 w3 (lsv yv) L G) (hF1 : ∀ b, F1 b → F b ∨ (wr.alloc (.cells #[.slice none 0 0, .pointer none, .pointer none, Vi 0, Vi 0, Vi 0, Vq 0, Vq 0, .pointer none] 33)).drew.heap.size ≤ b) :
    NewL Ls F wr L G (.pointer (some ⟨wr.heap.size, 0, none⟩)) .nilIface (putL w3 wr.heap.size yv) := by
  have bz : BxL (wr.alloc (.cells #[.slice none 0 0, .pointer none, .pointer none, Vi 0, Vi 0, Vi 0, Vq 0, Vq 0, .pointer none] 33)).drew wr.heap.size zLv := (BxL.new wr zLv).ext ((Ext.refl _).drew)
  have hsz : (wr.alloc (.cells #[.slice none 0 0, .pointer none, .pointer none, Vi 0, Vi 0, Vi 0, Vq 0, Vq 0, .pointer none] 33)).drew.heap.size = wr.heap.size + 1 := by simp
  have h1 : ∀ b, F1 b → b ≠ wr.heap.size := fun b hb => by
    rcases hF1 b hb with e | e
    · have := hF b e; omega
    · omega
  have xw := (((Ext.refl wr).alloc (.cells #[.slice none 0 0, .pointer none, .pointer none, Vi 0, Vi 0, Vi 0, Vq 0, Vq 0, .pointer none] 33)).drew).trans x3
  refine ⟨wr.heap.size, yv, F1, rfl, rfl, (bz.ext x3).put yv, M.rx hL1 (putL_rx _ _ _) h1, fun b hb => ?_, h1, Nat.le_refl _, RX.down xw (Nat.le_refl _) (putL_rx _ _ _)⟩
  rcases hF1 b hb with e | e
  · exact .inl e
  · exact .inr (by omega)
end Go.Proofs.Ytmpomammieenjaa

namespace Go.Proofs.Ytmpomammieenjaa
open Go.ChangeShapes Go.WideShapes Go.ChangeAt Go.RowKit Go.Sort
set_option linter.unusedVariables false
set_option linter.unusedSimpArgs false

def pkN (z : Int) (k : Nat) : Nat := (if Int.tmod z k < 0 then Int.tmod z k + k else Int.tmod z k).toNat
theorem pkN_lt {z : Int} {k : Nat} (hk : 0 < k) : pkN z k < k := by
  have h1 : Int.tmod z k < k := Int.tmod_lt_of_pos z (by omega)
  have h2 : -(k : Int) < Int.tmod z k := Int.lt_tmod_of_pos z (by omega)
  unfold pkN
  split <;> omega
theorem pick9_any (n : Int) (k : Nat) (w : World) (hk : 0 < k) (hk2 : k ≤ 3000) : Calls Try.prog 8 #[Vi n, Vi k] w fun e w' => e = .returned (Vi ((pkN n k : Nat) : Int)) ∧ w = w' := by
  have h1 : Int.tmod n k < k := Int.tmod_lt_of_pos n (by omega)
  have h2 : -(k : Int) < Int.tmod n k := Int.lt_tmod_of_pos n (by omega)
  have h3 : ((k : Int) == 0) = false := by rw [beq_eq_false_iff_ne]; omega
  obtain ⟨R, hR⟩ : ∃ R, ((pkN n k : Nat) : Int) = R := ⟨_, rfl⟩
  rw [hR]
  unfold pkN at hR
  by_cases hneg : Int.tmod n k < 0
  · rw [if_pos hneg] at hR
    have hR' := Lib.hid (show Int.tmod n k + k = R by omega)
    clear hR
    go_enter Try.func8, Try.ntmps8
    go_wp2
    go_ret
    exact ⟨ret_i64 hR'.out, rfl⟩
  · rw [if_neg hneg] at hR
    have hR' := Lib.hid (show Int.tmod n k = R by omega)
    clear hR
    go_enter Try.func8, Try.ntmps8
    go_wp2
    go_ret
    exact ⟨ret_i64 hR'.out, rfl⟩

end Go.Proofs.Ytmpomammieenjaa

namespace Go.Proofs.Ytmpomammieenjaa
open Go.ChangeShapes Go.WideShapes Go.ChangeAt Go.RowKit Go.Sort
set_option linter.unusedVariables false
set_option linter.unusedSimpArgs false
attribute [local go_sem] World.cell?_alloc_some

def gI (K : List It) (z : Int) : I2 := match K[pkN z K.length]? with
  | some x => (x.c, x.k)
  | none => (0, 0)
theorem gI_at {K : List It} {z : Int} (h0 : 0 < K.length) : ∃ x, K[pkN z K.length]? = some x ∧ gI K z = (x.c, x.k) := by
  have hx := List.getElem?_eq_getElem (pkN_lt (z := z) h0)
  refine ⟨_, hx, ?_⟩
  unfold gI; rw [hx]
def gsI (K : List It) (l : List Int) : List I2 := l.map (gI K)
theorem gsI_step {K : List It} {l : List Int} {j : Nat} {z : Int} (h : l[j]? = some z) : gsI K (l.take (j + 1)) = gsI K (l.take j) ++ [gI K z] := by
  unfold gsI
  rw [List.take_add_one, h, Option.toList_some, List.map_append, List.map_singleton]
theorem gone_snoc (g : List I2) (b a : I2) : goneI (g ++ [b]) a = (goneI g a || decide (b = a)) := by
  unfold goneI
  rw [List.any_append]
  simp
theorem come_roundL {p rl j : Nat} (hp : p < rl) (hj : j < rl) : ∃ i, i < rl ∧ (p + i) % rl = j := by
  rcases Nat.lt_or_ge j p with h | h
  · refine ⟨j + rl - p, by omega, ?_⟩
    rw [show p + (j + rl - p) = j + rl by omega, Nat.add_mod_right, Nat.mod_eq_of_lt hj]
  · exact ⟨j - p, by omega, by rw [show p + (j - p) = j by omega, Nat.mod_eq_of_lt hj]⟩
theorem take_len_ltL {α : Type} {l : List α} {n t : Nat} (h : l.length = n) (ht : t + 1 ≤ n) : (l.take t).length = t := by rw [List.length_take, h]; omega
theorem gone_more {o : List It} {G gs : List I2} {x : It} {d : Bool} (hG : ∀ a, hasI o a = true → goneI G a = goneI gs a) (hno : hasI o (x.c, x.k) = false) (hGm : ∀ a ∈ G, hasI o a = true) (hd : d = goneI gs (x.c, x.k)) :
    (∀ a, hasI (o ++ [x]) a = true → goneI (if d then G ++ [(x.c, x.k)] else G) a = goneI gs a) ∧ ∀ a ∈ (if d then G ++ [(x.c, x.k)] else G), hasI (o ++ [x]) a = true := by
  have hGn : goneI G (x.c, x.k) = false := by
    cases h : goneI G (x.c, x.k) with
    | false => rfl
    | true => rw [hGm _ (goneI_iff.1 h)] at hno; cases hno
  constructor
  · intro a ha
    rw [has_snoc] at ha
    by_cases e : iid x = a
    · subst e
      show goneI _ (x.c, x.k) = goneI gs (x.c, x.k)
      cases d with
      | true => rw [if_pos rfl, gone_snoc, ← hd]; simp
      | false => rw [if_neg (by decide), hGn, ← hd]
    · have ho : hasI o a = true := by simpa [e] using ha
      cases d with
      | true =>
        rw [if_pos rfl, gone_snoc, hG a ho, show decide ((x.c, x.k) = a) = false from decide_eq_false e, Bool.or_false]
      | false => rw [if_neg (by decide)]; exact hG a ho
  · intro a ha
    rw [has_snoc]
    cases d with
    | true =>
      rw [if_pos rfl] at ha
      rcases List.mem_append.1 ha with h | h
      · rw [hGm a h]; rfl
      · rw [List.mem_singleton] at h
        rw [show decide (iid x = a) = true from decide_eq_true h.symm, Bool.or_true]
    | false =>
      rw [if_neg (by decide)] at ha
      rw [hGm a ha]; rfl
structure BL (Ls : (Nat → Prop) → World → Value → List It → List I2 → Prop) (p : Nat) (L : List It) (G : List I2) (F : Nat → Prop) (xv : Lv) (W : World) : Prop where
  b : BxL W p xv
  x : Ls F W (lsv xv) L G
  s : ∀ b, F b → b ≠ p
theorem BL.ext {Ls : (Nat → Prop) → World → Value → List It → List I2 → Prop} (M : LsW Ls) {p : Nat} {L : List It} {G : List I2} {F : Nat → Prop} {xv : Lv} {W W' : World} (h : BL Ls p L G F xv W) (hx : Ext W W') : BL Ls p L G F xv W' := ⟨h.b.ext hx, M.ext h.x hx, h.s⟩
theorem BL.put {Ls : (Nat → Prop) → World → Value → List It → List I2 → Prop} (M : LsW Ls) {p : Nat} {L L' : List It} {G G' : List I2} {F F' : Nat → Prop} {xv yv : Lv} {W W' : World} (h : BL Ls p L G F xv W) (hx : Ext W W') (hy : Ls F' W' (lsv yv) L' G') (hF : ∀ b, F' b → F b ∨ W.heap.size ≤ b) : BL Ls p L' G' F' yv (putL W' p yv) := by
  have h1 : ∀ b, F' b → b ≠ p := fun b hb => by
    rcases hF b hb with e | e
    · exact h.s b e
    · have := h.b.lt; omega
  exact ⟨(h.b.ext hx).put yv, M.rx hy (putL_rx W' p yv) h1, h1⟩

theorem ItS.rx {W W' : World} {A : Option Addr} {l : List It} {p : Nat} (h : ItS W A l) (hx : RX p W W') (hne : ∀ b o s, A = some ⟨b, o, s⟩ → b ≠ p) : ItS W' A l := fun h0 => by
  obtain ⟨b, o, e, hc⟩ := h h0
  exact ⟨b, o, e, fun j u hu => hx.cell (hc j u hu) (hne _ _ _ e)⟩
theorem OwnI.emptyL {w W : World} (hx : Ext w W) : OwnI w (W.alloc (.cells #[] 43)) (.slice (some ⟨W.heap.size, 0, none⟩) 0 0) [] :=
  ⟨rfl, .inr ⟨W.heap.size, 0, #[], rfl, hx.size, heap_alloc_new W _, Nat.le_refl _, by unfold maxLen; omega, rfl, rfl⟩⟩
structure OrN (Ls : (Nat → Prop) → World → Value → List It → List I2 → Prop) (w3 : World) (K : List It) (gs : List I2) (p17 ol : Nat) (Ar : Option Addr) (cr : Nat) (rest other : List It) (G : List I2) (F : Nat → Prop) (zv : Lv) (W : World) : Prop where
  room : rest.length ≤ cr
  row : ItS W Ar rest
  off : ∀ b o s, Ar = some ⟨b, o, s⟩ → b ≠ p17
  part : Parts K other rest
  kn : knownI other = true
  len : other.length = ol
  g1 : ∀ a, hasI other a = true → goneI G a = goneI gs a
  g2 : ∀ a ∈ G, hasI other a = true
  g3 : G.length ≤ ol
  z : BL Ls p17 other G F zv W
  e : Ext w3 W
theorem OrN.ext {Ls : (Nat → Prop) → World → Value → List It → List I2 → Prop} (M : LsW Ls) {w3 : World} {K : List It} {gs : List I2} {p17 ol : Nat} {Ar : Option Addr} {cr : Nat} {rest other : List It} {G : List I2} {F : Nat → Prop} {zv : Lv} {W W' : World} (h : OrN Ls w3 K gs p17 ol Ar cr rest other G F zv W) (hx : Ext W W') : OrN Ls w3 K gs p17 ol Ar cr rest other G F zv W' :=
  { h with row := h.row.ext hx, z := h.z.ext M hx, e := h.e.trans hx }
def OrR (Ls : (Nat → Prop) → World → Value → List It → List I2 → Prop) (w3 : World) (K : List It) (gs : List I2) (p17 ol gk : Nat) (vr : Value) (W : World) : Prop :=
  ∃ Ar cr rest other G F zv, vr = .slice Ar rest.length cr ∧ rest.length ≤ gk ∧ Hid (OrN Ls w3 K gs p17 ol Ar cr rest other G F zv W)
def OrI (Ls : (Nat → Prop) → World → Value → List It → List I2 → Prop) (w3 wc : World) (K : List It) (gs : List I2) (p17 ol p rl cr : Nat) (Ar : Option Addr) (rest other : List It) (vr vput vk : Value) (W : World) : Prop :=
  (vput = .bool false ∧ vr = .slice Ar rl cr ∧ ∃ q, q ≤ rl ∧ vk = Vi (q : Int) ∧ Hid (∀ i, i < q → ∀ z, rest[(p + i) % rl]? = some z → knownX other z = false) ∧ Hid (Ext wc W)) ∨
  (vput = .bool true ∧ ∃ q, q ≤ rl ∧ vk = Vi (q : Int) ∧ Hid (OrR Ls w3 K gs p17 (ol + 1) (rl - 1) vr W))
def putN (vput vk : Value) (rl : Nat) : Nat := match vput with
  | .bool true => 0
  | _ => rl + 1 - (intOf vk).toNat
end Go.Proofs.Ytmpomammieenjaa
