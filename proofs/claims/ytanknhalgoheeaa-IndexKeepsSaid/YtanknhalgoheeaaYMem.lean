/-
  A tree of chunks in memory; no claim stands here.
-/
import Derived.Test.YtanknhalgoheeaaYKey
import Derived.Test.YtanknhalgoheeaaErr
namespace Go.Proofs.Ytanknhalgoheeaa
open Go.ChangeShapes Go.WideShapes Go.ChangeAt Go.RowKit Go.Sort
set_option linter.unusedVariables false
attribute [local go_sem] World.cell?_alloc_some

abbrev Vp (b : Nat) : Value := .pointer (some ⟨b, 0, none⟩)
abbrev Vnil : Value := .pointer none
/-- a part's eight cells -/
structure PtC (W : World) (b : Nat) (c0 c1 c2 : Value) (h n s lo hi : Int) : Prop where
  c0 : W.cell? ⟨b, 0, none⟩ = some c0
  c1 : W.cell? ⟨b, 1, none⟩ = some c1
  c2 : W.cell? ⟨b, 2, none⟩ = some c2
  c3 : W.cell? ⟨b, 3, none⟩ = some (Vi h)
  c4 : W.cell? ⟨b, 4, none⟩ = some (Vi n)
  c5 : W.cell? ⟨b, 5, none⟩ = some (Vi s)
  c6 : W.cell? ⟨b, 6, none⟩ = some (Vq lo)
  c7 : W.cell? ⟨b, 7, none⟩ = some (Vq hi)
theorem PtC.ext {W W' : World} {b : Nat} {c0 c1 c2 : Value} {h n s lo hi : Int} (x : PtC W b c0 c1 c2 h n s lo hi) (hx : Ext W W') : PtC W' b c0 c1 c2 h n s lo hi :=
  ⟨hx.keep x.c0, hx.keep x.c1, hx.keep x.c2, hx.keep x.c3, hx.keep x.c4, hx.keep x.c5, hx.keep x.c6, hx.keep x.c7⟩
theorem cell_heap {W W' : World} {b o : Nat} (h : W'.heap[b]? = W.heap[b]?) : W'.cell? ⟨b, o, none⟩ = W.cell? ⟨b, o, none⟩ := by
  simp only [World.cell?, h]
theorem PtC.frame {W W' : World} {b : Nat} {c0 c1 c2 : Value} {h n s lo hi : Int} (x : PtC W b c0 c1 c2 h n s lo hi) (hx : W'.heap[b]? = W.heap[b]?) : PtC W' b c0 c1 c2 h n s lo hi :=
  ⟨(cell_heap hx).trans x.c0, (cell_heap hx).trans x.c1, (cell_heap hx).trans x.c2, (cell_heap hx).trans x.c3, (cell_heap hx).trans x.c4, (cell_heap hx).trans x.c5, (cell_heap hx).trans x.c6, (cell_heap hx).trans x.c7⟩
theorem PtC.lt {W : World} {b : Nat} {c0 c1 c2 : Value} {h n s lo hi : Int} (x : PtC W b c0 c1 c2 h n s lo hi) : b < W.heap.size := World.block_lt_of_cell? W _ x.c0

/-- a part's chunk and its two parts hold this tree; F: the blocks that it reads -/
def PV (F : Nat → Prop) (W : World) : Tr → Value → Value → Value → Prop
  | .leaf l, ch, lf, rt => lf = Vnil ∧ rt = Vnil ∧ ∃ A cap, ch = .slice A l.length cap ∧ l.length ≤ cap ∧ EnS W A l ∧ (0 < l.length → ∃ k o, A = some ⟨k, o, none⟩ ∧ F k)
  | .node a b, ch, lf, rt => ch = .slice none 0 0 ∧ ∃ p q, lf = Vp p ∧ rt = Vp q ∧
      (F p ∧ ∃ c l r, PtC W p c l r (htT a) (cnt a) (shw a) (loT a) (hiT a) ∧ PV F W a c l r) ∧
      (F q ∧ ∃ c l r, PtC W q c l r (htT b) (cnt b) (shw b) (loT b) (hiT b) ∧ PV F W b c l r)
/-- at this block lies a part -/
def AtP (F : Nat → Prop) (W : World) (b : Nat) (t : Tr) : Prop := F b ∧ ∃ c l r, PtC W b c l r (htT t) (cnt t) (shw t) (loT t) (hiT t) ∧ PV F W t c l r
theorem PV.node {F : Nat → Prop} {W : World} {a b : Tr} {c l r : Value} (h : PV F W (.node a b) c l r) : c = .slice none 0 0 ∧ ∃ p q, l = Vp p ∧ r = Vp q ∧ AtP F W p a ∧ AtP F W q b := h
theorem PV.of_node {F : Nat → Prop} {W : World} {a b : Tr} {p q : Nat} (ha : AtP F W p a) (hb : AtP F W q b) : PV F W (.node a b) (.slice none 0 0) (Vp p) (Vp q) := ⟨rfl, p, q, rfl, rfl, ha, hb⟩

theorem PV.ext {F : Nat → Prop} {W W' : World} (hx : Ext W W') : ∀ {t : Tr} {c l r : Value}, PV F W t c l r → PV F W' t c l r
  | .leaf l, c, lf, rt, ⟨h1, h2, A, cap, h3, h4, h5, h6⟩ => ⟨h1, h2, A, cap, h3, h4, h5.ext hx, h6⟩
  | .node a b, c, lf, rt, ⟨h1, p, q, h2, h3, ⟨hp, ca, la, ra, xa, va⟩, hq, cb, lb, rb, xb, vb⟩ =>
    ⟨h1, p, q, h2, h3, ⟨hp, ca, la, ra, xa.ext hx, PV.ext hx va⟩, hq, cb, lb, rb, xb.ext hx, PV.ext hx vb⟩
theorem AtP.ext {F : Nat → Prop} {W W' : World} {b : Nat} {t : Tr} (h : AtP F W b t) (hx : Ext W W') : AtP F W' b t := by
  obtain ⟨h1, c, l, r, x, v⟩ := h
  exact ⟨h1, c, l, r, x.ext hx, v.ext hx⟩
theorem EnS.frame {W W' : World} {A : Option Addr} {l : List En} (h : EnS W A l) (hx : ∀ k o, A = some ⟨k, o, none⟩ → W'.heap[k]? = W.heap[k]?) : EnS W' A l := fun h0 => by
  obtain ⟨b, o, e, hc⟩ := h h0
  exact ⟨b, o, e, fun j u hu => (cell_heap (hx b o e)).trans (hc j u hu)⟩
theorem PV.frame {F : Nat → Prop} {W W' : World} (hx : ∀ b, F b → W'.heap[b]? = W.heap[b]?) : ∀ {t : Tr} {c l r : Value}, PV F W t c l r → PV F W' t c l r
  | .leaf l, c, lf, rt, ⟨h1, h2, A, cap, h3, h4, h5, h6⟩ => ⟨h1, h2, A, cap, h3, h4, by
      rcases Nat.eq_zero_or_pos l.length with h0 | h0
      · rw [List.length_eq_zero_iff.1 h0]; exact EnS.nil _ _
      · obtain ⟨k, o, e, hf⟩ := h6 h0
        refine h5.frame fun k' o' e' => ?_
        rw [e] at e'
        injection e' with e'
        injection e' with e1
        subst e1
        exact hx _ hf, h6⟩
  | .node a b, c, lf, rt, ⟨h1, p, q, h2, h3, ⟨hp, ca, la, ra, xa, va⟩, hq, cb, lb, rb, xb, vb⟩ =>
    ⟨h1, p, q, h2, h3, ⟨hp, ca, la, ra, xa.frame (hx p hp), PV.frame hx va⟩, hq, cb, lb, rb, xb.frame (hx q hq), PV.frame hx vb⟩
theorem PV.mono {F G : Nat → Prop} {W : World} (hx : ∀ b, F b → G b) : ∀ {t : Tr} {c l r : Value}, PV F W t c l r → PV G W t c l r
  | .leaf l, c, lf, rt, ⟨h1, h2, A, cap, h3, h4, h5, h6⟩ => ⟨h1, h2, A, cap, h3, h4, h5, fun h0 => by
      obtain ⟨k, o, e, hf⟩ := h6 h0
      exact ⟨k, o, e, hx _ hf⟩⟩
  | .node a b, c, lf, rt, ⟨h1, p, q, h2, h3, ⟨hp, ca, la, ra, xa, va⟩, hq, cb, lb, rb, xb, vb⟩ =>
    ⟨h1, p, q, h2, h3, ⟨hx _ hp, ca, la, ra, xa, PV.mono hx va⟩, hx _ hq, cb, lb, rb, xb, PV.mono hx vb⟩
theorem EnS.lt {W : World} {k o : Nat} {l : List En} (h : EnS W (some ⟨k, o, none⟩) l) (h0 : 0 < l.length) : k < W.heap.size := by
  obtain ⟨b, o', x, e, hx, hc⟩ := h.at (k := 0) h0
  injection e with e
  injection e with e1
  subst e1
  exact World.block_lt_of_cell? W _ hc.c0
theorem PV.lt {F : Nat → Prop} {W : World} : ∀ {t : Tr} {c l r : Value}, PV F W t c l r → PV (fun b => F b ∧ b < W.heap.size) W t c l r
  | .leaf l, c, lf, rt, ⟨h1, h2, A, cap, h3, h4, h5, h6⟩ => ⟨h1, h2, A, cap, h3, h4, h5, fun h0 => by
      obtain ⟨k, o, e, hf⟩ := h6 h0
      subst e
      exact ⟨k, o, rfl, hf, h5.lt h0⟩⟩
  | .node a b, c, lf, rt, ⟨h1, p, q, h2, h3, ⟨hp, ca, la, ra, xa, va⟩, hq, cb, lb, rb, xb, vb⟩ =>
    ⟨h1, p, q, h2, h3, ⟨⟨hp, xa.lt⟩, ca, la, ra, xa, PV.lt va⟩, ⟨hq, xb.lt⟩, cb, lb, rb, xb, PV.lt vb⟩

theorem PtC.new (W : World) (c0 c1 c2 : Value) (h n s lo hi : Int) (T : TypeId) : PtC (W.alloc (.cells #[c0, c1, c2, Vi h, Vi n, Vi s, Vq lo, Vq hi] T)) W.heap.size c0 c1 c2 h n s lo hi := by
  constructor <;> simp [go_sem]
/-- a part of the call's own is told -/
def NewP (G : Nat → Prop) (W : World) (v : Value) (t : Tr) : Prop := ∃ r, v = Vp r ∧ AtP G W r t
theorem NewP.ext {G : Nat → Prop} {W W' : World} {v : Value} {t : Tr} (h : NewP G W v t) (hx : Ext W W') : NewP G W' v t := by
  obtain ⟨r, e, h⟩ := h
  exact ⟨r, e, h.ext hx⟩
/-- all new blocks may be read -/
def Up (G : Nat → Prop) (W : World) : Prop := ∀ b, W.heap.size ≤ b → G b
theorem Up.ext {G : Nat → Prop} {W W' : World} (h : Up G W) (hx : Ext W W') : Up G W' := fun b hb => h b (Nat.le_trans hx.size hb)

end Go.Proofs.Ytanknhalgoheeaa
