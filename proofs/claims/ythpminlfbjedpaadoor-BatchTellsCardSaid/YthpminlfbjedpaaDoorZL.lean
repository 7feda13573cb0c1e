/-
  Several texts of this seat in one file, each in the namespace again; no claim stands here.
-/
import Derived.Orders
import Derived.StillTail
import Derived.Test.YthpminlfbjedpaaDoorValZ
import Derived.Test.YthpminlfbjedpaaDoorWirGetZ
import Derived.Test.YthpminlfbjedpaaDoorChrZ
import Derived.Test.YthpminlfbjedpaaDoorBMay
import Derived.Test.YthpminlfbjedpaaDoorZH
namespace Go.Proofs.YthpminlfbjedpaaDoor
open Go.ChangeShapes Go.WideShapes Go.ChangeAt Go.RowKit Go.Sort
set_option linter.unusedVariables false

/-- a text of bytes -/
abbrev Vt (l : List UInt8) : Value := .string ⟨l.toArray⟩
/-- what GetText answers -/
def getTRet (r : Option (List UInt8 × Nat)) : Value := match r with
  | none => .tuple #[Vt [], Vi 0, errM]
  | some (s, n) => .tuple #[Vt s, Vi n, .nilIface]
def getTRefRet (r : Option (List UInt8 × Nat)) : Value := match r with
  | none => .tuple #[Vt [], Vi 0, .bool false]
  | some (s, n) => .tuple #[Vt s, Vi n, .bool true]

theorem getB_size {l : List UInt8} {p : Int} {z k : Nat} (h : getB l p = some (z, k)) : 0 ≤ p ∧ p.toNat + k ≤ l.length ∧ z < 4294967296 ∧ 0 < k ∧ k ≤ 5 := by
  by_cases hp : p < 0
  · rw [getB_out (.inl hp)] at h; cases h
  · obtain ⟨q, rfl⟩ : ∃ q : Nat, p = q := ⟨p.toNat, by omega⟩
    have := getB_back h
    omega

set_option maxRecDepth 100000 in
set_option maxHeartbeats 1000000 in
theorem getText_none (A : Option Addr) (n c : Nat) (l : List UInt8) (p : Int) (w : World) (hb : Bys w A l) (hl : l.length = n) (hc : n ≤ c) (hn : n ≤ 30000) (hg : getB l p = none) :
    Calls Tryd.prog 60 #[.slice A n c, Vi p] w fun e w' => e = .returned (getTRet none) ∧ Ext w w' := by
  have hcall := get_any A n c l p w hb hl hc hn
  rw [hg] at hcall
  replace hcall := Lib.hid hcall
  clear hb hl hg
  go_enter Tryd.func60, Tryd.ntmps60
  go_wp2_with fail
  refine hcall.out.mono ?_
  rintro e w1 ⟨rfl, x1⟩
  simp only [getRet]
  go_wp2
  exact bodyPost_ret (v := getTRet none) (by simp [results, Tryd.results60, go_sem, getTRet]) rfl ⟨rfl, x1⟩

set_option maxRecDepth 100000 in
set_option maxHeartbeats 1000000 in
theorem getText_some (A : Option Addr) (n c z k : Nat) (l : List UInt8) (p : Nat) (r : Option (List UInt8 × Nat)) (w : World) (hb : Bys w A l) (hl : l.length = n) (hc : n ≤ c) (hn : n ≤ 30000) (hT : Tabs w) (hg : getB l p = some (z, k)) (hr : getT l p = r) :
    Calls Tryd.prog 60 #[.slice A n c, Vi p] w fun e w' => e = .returned (getTRet r) ∧ Ext w w' := by
  have hcall := get_any A n c l p w hb hl hc hn
  rw [hg] at hcall
  replace hcall := Lib.hid hcall
  obtain ⟨-, hk1, hz, hk0, hk5⟩ := getB_size hg
  rw [Int.toNat_natCast, hl] at hk1
  unfold getT at hr
  rw [hg, Int.toNat_natCast] at hr
  simp only [List.length_drop, hl] at hr
  have hfr := fromB A n c (p + k) (by omega) ((p : Int) + k) (by omega)
  have hbr := hb.cut hl hc (k := p + k) (by omega)
  have hlr : (l.drop (p + k)).length = n - (p + k) := by rw [List.length_drop, hl]
  generalize cutA A c (p + k) 1 = A2 at hfr hbr
  generalize l.drop (p + k) = t at hbr hlr hr
  clear hg hb hl
  by_cases hbig : n - (p + k) < z
  · rw [if_pos hbig] at hr
    subst hr
    clear hlr hbr
    go_enter Tryd.func60, Tryd.ntmps60
    go_wp2_with fail
    refine hcall.out.mono ?_
    rintro e w1 ⟨rfl, x1⟩
    simp only [getRet]
    go_wp2
    exact bodyPost_ret (v := getTRet none) (by simp [results, Tryd.results60, go_sem, getTRet]) rfl ⟨rfl, x1⟩
  · rw [if_neg hbig] at hr
    have hup := uptoU A2 (n - (p + k)) (c - (p + k)) z (by omega) z rfl
    have hlt : (t.take z).length = z := by rw [List.length_take, hlr]; omega
    have hbt := hbr.take z
    have hcv := fun W (hxW : Ext w W) => textB (c := c - (p + k)) (hbt.ext hxW) hlt
    have hval := fun W (hxW : Ext w W) => Lib.hid (valid_any A2 z (c - (p + k)) (t.take z) W (hbt.ext hxW) hlt (by omega) (by omega) (hT.ext hxW))
    generalize t.take z = s at hcv hval hr
    generalize Lib.validD s = V at hval hr
    clear hlr hbr hbt hlt hT
    go_enter Tryd.func60, Tryd.ntmps60
    go_wp2_with fail
    refine hcall.out.mono ?_
    rintro e w1 ⟨rfl, x1⟩
    simp only [getRet]
    have hv1 := hval w1 x1
    clear hval
    go_wp2_with fail
    refine hv1.out.mono ?_
    rintro e w2 ⟨rfl, x2⟩
    have x12 := x1.trans x2
    have hcv2 := hcv w2 x12
    clear hcv hv1
    cases V with
    | false =>
      rw [if_neg (by simp)] at hr
      subst hr
      go_wp2
      exact bodyPost_ret (v := getTRet none) (by simp [results, Tryd.results60, go_sem, getTRet]) rfl ⟨rfl, x12⟩
    | true =>
      rw [if_pos rfl] at hr
      subst hr
      go_wp2
      exact bodyPost_ret (v := getTRet (some (s, k + z))) (by simp [results, Tryd.results60, go_sem, getTRet]) rfl ⟨rfl, x12⟩

theorem getText_any (A : Option Addr) (n c : Nat) (l : List UInt8) (p : Int) (w : World) (hb : Bys w A l) (hl : l.length = n) (hc : n ≤ c) (hn : n ≤ 30000) (hT : Tabs w) :
    Calls Tryd.prog 60 #[.slice A n c, Vi p] w fun e w' => e = .returned (getTRet (getT l p)) ∧ Ext w w' := by
  cases hg : getB l p with
  | none =>
    have : getT l p = none := by unfold getT; rw [hg]
    rw [this]
    exact getText_none A n c l p w hb hl hc hn hg
  | some q =>
    obtain ⟨z, k⟩ := q
    obtain ⟨h0, _⟩ := getB_size hg
    obtain ⟨q, rfl⟩ : ∃ q : Nat, p = q := ⟨p.toNat, by omega⟩
    exact getText_some A n c z k l q _ w hb hl hc hn hT hg rfl

set_option maxRecDepth 100000 in
set_option maxHeartbeats 1000000 in
theorem getTextRef_none (A : Option Addr) (n c : Nat) (l : List UInt8) (p : Int) (w : World) (hb : Bys w A l) (hl : l.length = n) (hn : n ≤ 30000) (hg : getB l p = none) :
    Calls Tryd.prog 29 #[.slice A n c, Vi p] w fun e w' => e = .returned (getTRefRet none) ∧ Ext w w' := by
  have hcall := getRef_any A n c l p w hb hl hn
  rw [hg] at hcall
  replace hcall := Lib.hid hcall
  clear hb hl hg
  go_enter Tryd.func29, Tryd.ntmps29
  go_wp2_with fail
  refine hcall.out.mono ?_
  rintro e w1 ⟨rfl, rfl⟩
  simp only [getRefRet]
  go_wp2
  exact bodyPost_ret (v := getTRefRet none) (by simp [results, Tryd.results29, go_sem, getTRefRet]) rfl ⟨rfl, Ext.refl _⟩

set_option maxRecDepth 100000 in
set_option maxHeartbeats 1000000 in
theorem getTextRef_some (A : Option Addr) (n c z k : Nat) (l : List UInt8) (p : Nat) (r : Option (List UInt8 × Nat)) (w : World) (hb : Bys w A l) (hl : l.length = n) (hc : n ≤ c) (hn : n ≤ 30000) (hg : getB l p = some (z, k)) (hr : getT l p = r) :
    Calls Tryd.prog 29 #[.slice A n c, Vi p] w fun e w' => e = .returned (getTRefRet r) ∧ Ext w w' := by
  have hcall := getRef_any A n c l p w hb hl hn
  rw [hg] at hcall
  replace hcall := Lib.hid hcall
  obtain ⟨-, hk1, hz, hk0, hk5⟩ := getB_size hg
  rw [Int.toNat_natCast, hl] at hk1
  unfold getT at hr
  rw [hg, Int.toNat_natCast] at hr
  simp only [List.length_drop, hl] at hr
  have hbr := hb.cut hl hc (k := p + k) (by omega)
  have hlr : (l.drop (p + k)).length = n - (p + k) := by rw [List.length_drop, hl]
  obtain ⟨A2, hA2⟩ : ∃ A2, cutA A c (p + k) 1 = A2 := ⟨_, rfl⟩
  rw [hA2] at hbr
  generalize l.drop (p + k) = t at hbr hlr hr
  clear hg hb hl
  by_cases hbig : n - (p + k) < z
  · rw [if_pos hbig] at hr
    subst hr
    have hbz : (n : Int) - p - k < z := by omega
    clear hlr hbr
    go_enter Tryd.func29, Tryd.ntmps29
    go_wp2_with fail
    refine hcall.out.mono ?_
    rintro e w1 ⟨rfl, rfl⟩
    simp only [getRefRet]
    go_wp2
    exact bodyPost_ret (v := getTRefRet none) (by simp [results, Tryd.results29, go_sem, getTRefRet]) rfl ⟨rfl, Ext.refl _⟩
  · rw [if_neg hbig] at hr
    have hbz : ¬ ((n : Int) - p - k < z) := by omega
    have hmid := midB A n c (p + k) (p + k + z) (by omega) (by omega) ((p : Int) + k) ((p : Int) + k + z) (by omega) (by omega)
    rw [hA2, show p + k + z - (p + k) = z by omega] at hmid
    have hlt : (t.take z).length = z := by rw [List.length_take, hlr]; omega
    have hbt := hbr.take z
    have hcv := textB (c := c - (p + k)) hbt hlt
    have hch := chars_any ⟨(t.take z).toArray⟩ (by show (t.take z).toArray.size ≤ _; simp only [List.size_toArray]; omega) w
    simp only at hch
    generalize t.take z = s at hcv hch hr
    replace hch := Lib.hid hch
    clear hlr hbr hbt hlt hA2
    go_enter Tryd.func29, Tryd.ntmps29
    go_wp2_with fail
    refine hcall.out.mono ?_
    rintro e w1 ⟨rfl, rfl⟩
    simp only [getRefRet]
    go_wp2_with fail
    refine hch.out.mono ?_
    rintro e w2 ⟨⟨hv, rfl⟩ | ⟨hv, v, rfl, ho⟩, x2⟩
    · rw [if_neg (by rw [hv]; simp)] at hr
      subst hr
      clear hv
      go_wp2
      exact bodyPost_ret (v := getTRefRet none) (by simp [results, Tryd.results29, go_sem, getTRefRet]) rfl ⟨rfl, x2⟩
    · rw [if_pos hv] at hr
      subst hr
      clear hv ho
      go_wp2
      exact bodyPost_ret (v := getTRefRet (some (s, k + z))) (by simp [results, Tryd.results29, go_sem, getTRefRet]) rfl ⟨rfl, x2⟩

theorem getTextRef_any (A : Option Addr) (n c : Nat) (l : List UInt8) (p : Int) (w : World) (hb : Bys w A l) (hl : l.length = n) (hc : n ≤ c) (hn : n ≤ 30000) :
    Calls Tryd.prog 29 #[.slice A n c, Vi p] w fun e w' => e = .returned (getTRefRet (getT l p)) ∧ Ext w w' := by
  cases hg : getB l p with
  | none =>
    have : getT l p = none := by unfold getT; rw [hg]
    rw [this]
    exact getTextRef_none A n c l p w hb hl hn hg
  | some q =>
    obtain ⟨z, k⟩ := q
    obtain ⟨h0, _⟩ := getB_size hg
    obtain ⟨q, rfl⟩ : ∃ q : Nat, p = q := ⟨p.toNat, by omega⟩
    exact getTextRef_some A n c z k l q _ w hb hl hc hn hg rfl

end Go.Proofs.YthpminlfbjedpaaDoor

namespace Go.Proofs.YthpminlfbjedpaaDoor
open Go.ChangeShapes Go.WideShapes Go.ChangeAt Go.RowKit Go.Sort
set_option linter.unusedVariables false
attribute [local go_sem] World.cell?_alloc_some

/-- how a reader goes on: where it is, and whether it is bad -/
def numS (l : List UInt8) (s : Nat × Bool) : Nat × Nat × Bool := match getB l s.1 with
  | none => (0, s.1, true)
  | some (v, k) => (v, s.1 + k, s.2)
def txtS (l : List UInt8) (s : Nat × Bool) : List UInt8 × Nat × Bool := match getT l s.1 with
  | none => ([], s.1, true)
  | some (t, k) => (t, s.1 + k, s.2)
def idS (l : List UInt8) (s : Nat × Bool) : (Nat × Nat) × Nat × Bool := (((numS l s).1, (numS l (numS l s).2).1), (numS l (numS l s).2).2)
def spanS (l : List UInt8) (s : Nat × Bool) : Sp × Nat × Bool := (((numS l s).1, (numS l (numS l s).2).1, (numS l (numS l (numS l s).2).2).1), (numS l (numS l (numS l s).2).2).2)
def runS (l : List UInt8) (s : Nat × Bool) : Rn × Nat × Bool :=
  (⟨(idS l s).1.1, (idS l s).1.2, (idS l (idS l s).2).1.1, (idS l (idS l s).2).1.2, (idS l (idS l (idS l s).2).2).1.1, (idS l (idS l (idS l s).2).2).1.2, (txtS l (idS l (idS l (idS l s).2).2).2).1⟩, (txtS l (idS l (idS l (idS l s).2).2).2).2)
theorem numS_at (l : List UInt8) (s : Nat × Bool) (h : s.1 ≤ l.length) : (numS l s).2.1 ≤ l.length ∧ (numS l s).1 < 4294967296 := by
  unfold numS
  cases hg : getB l s.1 with
  | none => exact ⟨h, by simp⟩
  | some x =>
    obtain ⟨v, k⟩ := x
    have := getB_size hg
    have h2 := (getB_back hg).2.2.2.2
    exact ⟨by simp only; omega, h2⟩
theorem txtS_at (l : List UInt8) (s : Nat × Bool) (h : s.1 ≤ l.length) : (txtS l s).2.1 ≤ l.length := by
  unfold txtS
  cases hg : getT l s.1 with
  | none => exact h
  | some x =>
    obtain ⟨t, k⟩ := x
    exact (getT_back' h hg).1
theorem idS_at (l : List UInt8) (s : Nat × Bool) (h : s.1 ≤ l.length) : (idS l s).2.1 ≤ l.length := (numS_at l _ (numS_at l s h).1).1

/-- the reader's block, and how the world goes on while it reads -/
def RdS (W : World) (p : Nat) (A : Option Addr) (n c : Nat) (s : Nat × Bool) : Prop := W.heap[p]? = some (.cells #[.slice A n c, Vi s.1, .bool s.2] 67 (0, 0))
def RX (p : Nat) (W W' : World) : Prop := W.grownBy W' (some p)
theorem RX.refl (p : Nat) (W : World) : RX p W W := ⟨rfl, rfl, rfl, Nat.le_refl _, fun _ _ _ => rfl⟩
theorem RX.trans {p : Nat} {a b c : World} (h : RX p a b) (k : RX p b c) : RX p a c :=
  ⟨k.os.trans h.os, k.tape.trans h.tape, k.output.trans h.output, Nat.le_trans h.size k.size, fun j hj hne => (k.block j (Nat.lt_of_lt_of_le hj h.size) hne).trans (h.block j hj hne)⟩
theorem RX.ext {p : Nat} {a b : World} (h : Ext a b) : RX p a b := ⟨RowKit.Below.os h, RowKit.Below.tape h, RowKit.Below.output h, h.size, fun k hk _ => RowKit.Below.block h k hk⟩
theorem RX.down {p : Nat} {w0 W W' : World} (hx : Ext w0 W) (hp : w0.heap.size ≤ p) (h : RX p W W') : Ext w0 W' := RowKit.Below.grown hx h hx.size (fun k hk => by injection hk with hk; omega)
theorem RX.cell {p q j : Nat} {W W' : World} {x : Value} (h : RX p W W') (hc : W.cell? ⟨q, j, none⟩ = some x) (hne : q ≠ p) : W'.cell? ⟨q, j, none⟩ = some x := by
  rw [World.cell?_of_block (w := W) (w' := W') (a := ⟨q, j, none⟩) (h.block q (World.block_lt_of_cell? _ _ hc) (fun e => hne (by injection e)))]; exact hc
theorem RX.blk {p q : Nat} {W W' : World} {o : Obj} (h : RX p W W') (hc : W.heap[q]? = some o) (hne : q ≠ p) : W'.heap[q]? = some o := by
  rw [h.block q (Array.getElem?_eq_some_iff.1 hc).1 (fun e => hne (by injection e))]; exact hc
theorem RX.set {p q : Nat} {W W' : World} (h : RX p W W') (j : Nat) (u : Value) (hq : W.heap.size ≤ q ∨ q = p) : RX p W (W'.setCell ⟨q, j, none⟩ u) := by
  refine ⟨by rw [← h.os]; rfl, by rw [← h.tape]; rfl, by rw [← h.output]; rfl, by have := h.size; simpa [World.setCell] using this, fun k hk hne => ?_⟩
  rw [heap_setCell_other _ _ _ _ ?_, h.block k hk hne]
  intro e
  simp only at e
  subst e
  rcases hq with g | g
  · omega
  · exact hne (by rw [g])
theorem RdS.ext {W W' : World} {p : Nat} {A : Option Addr} {n c : Nat} {s : Nat × Bool} (h : RdS W p A n c s) (hx : Ext W W') : RdS W' p A n c s := by
  unfold RdS at h ⊢
  rw [RowKit.Below.block hx p (Array.getElem?_eq_some_iff.1 h).1]; exact h
theorem RdS.lt {W : World} {p : Nat} {A : Option Addr} {n c : Nat} {s : Nat × Bool} (h : RdS W p A n c s) : p < W.heap.size := (Array.getElem?_eq_some_iff.1 h).1
theorem RdS.cells {W : World} {p : Nat} {A : Option Addr} {n c : Nat} {s : Nat × Bool} (h : RdS W p A n c s) :
    W.cell? ⟨p, 0, none⟩ = some (.slice A n c) ∧ W.cell? ⟨p, 1, none⟩ = some (Vi s.1) ∧ W.cell? ⟨p, 2, none⟩ = some (.bool s.2) ∧ W.frozen? ⟨p, 1, none⟩ = false ∧ W.frozen? ⟨p, 2, none⟩ = false :=
  ⟨by rw [cell_of_row W p 0 _ _ _ h]; rfl, by rw [cell_of_row W p 1 _ _ _ h]; rfl, by rw [cell_of_row W p 2 _ _ _ h]; rfl, frozen_of_row W p 1 _ _ h, frozen_of_row W p 2 _ _ h⟩
theorem RdS.set {W : World} {p : Nat} {A : Option Addr} {n c : Nat} {s : Nat × Bool} (h : RdS W p A n c s) (a : Nat) (b : Bool) : RdS ((W.setCell ⟨p, 1, none⟩ (Vi a)).setCell ⟨p, 2, none⟩ (.bool b)) p A n c (a, b) :=
  heap_setCell_same _ _ 2 _ _ _ (heap_setCell_same _ _ 1 _ _ _ h)

set_option maxRecDepth 100000 in
set_option maxHeartbeats 2000000 in
theorem pass_ok (W : World) (p : Nat) (A : Option Addr) (n c at' : Nat) (b : Bool) (k : Nat) (hs : RdS W p A n c (at', b)) (h : at' ≤ 100000) (hk : k ≤ 100000) :
    Calls Tryd.prog 52 #[.pointer (some ⟨p, 0, none⟩), Vi k, .nilIface] W fun e w' => e = .returned (.tuple #[]) ∧ RdS w' p A n c (at' + k, b) ∧ RX p W w' := by
  obtain ⟨_, c1, c2, f1, f2⟩ := hs.cells
  have hadd : IntKind.i64.wrap ((at' : Int) + (k : Int)) = ((at' + k : Nat) : Int) := by rw [IntWalk.i64_in _ (by omega)]; omega
  have hst := Lib.hid (hs.set (at' + k) b)
  have hrx : RX p W ((W.setCell ⟨p, 1, none⟩ (Vi ((at' + k : Nat) : Int))).setCell ⟨p, 2, none⟩ (.bool b)) := ((RX.refl p W).set 1 _ (.inr rfl)).set 2 _ (.inr rfl)
  replace hrx := Lib.hid hrx
  simp only at c1 c2
  clear hs
  cases b with
  | true =>
    go_enter Tryd.func52, Tryd.ntmps52
    go_wp2
    exact bodyPost_end (v := .tuple #[]) (by simp [results, Tryd.results52, go_sem]) rfl ⟨rfl, hst.out, hrx.out⟩
  | false =>
    go_enter Tryd.func52, Tryd.ntmps52
    go_wp2
    exact bodyPost_end (v := .tuple #[]) (by simp [results, Tryd.results52, go_sem]) rfl ⟨rfl, hst.out, hrx.out⟩

set_option maxRecDepth 100000 in
set_option maxHeartbeats 2000000 in
theorem pass_bad (W : World) (p : Nat) (A : Option Addr) (n c at' : Nat) (b : Bool) (hs : RdS W p A n c (at', b)) (h : at' ≤ 100000) :
    Calls Tryd.prog 52 #[.pointer (some ⟨p, 0, none⟩), Vi 0, errM] W fun e w' => e = .returned (.tuple #[]) ∧ RdS w' p A n c (at', true) ∧ RX p W w' := by
  obtain ⟨_, c1, c2, f1, f2⟩ := hs.cells
  have hadd : IntKind.i64.wrap (at' : Int) = (at' : Int) := IntWalk.i64_in _ (by omega)
  have hst := Lib.hid (hs.set at' true)
  have hrx : RX p W ((W.setCell ⟨p, 1, none⟩ (Vi (at' : Int))).setCell ⟨p, 2, none⟩ (.bool true)) := ((RX.refl p W).set 1 _ (.inr rfl)).set 2 _ (.inr rfl)
  replace hrx := Lib.hid hrx
  simp only at c1 c2
  clear hs
  cases b with
  | true =>
    go_enter Tryd.func52, Tryd.ntmps52
    go_wp2
    exact bodyPost_end (v := .tuple #[]) (by simp [results, Tryd.results52, go_sem]) rfl ⟨rfl, hst.out, hrx.out⟩
  | false =>
    go_enter Tryd.func52, Tryd.ntmps52
    go_wp2
    exact bodyPost_end (v := .tuple #[]) (by simp [results, Tryd.results52, go_sem]) rfl ⟨rfl, hst.out, hrx.out⟩

section
variable {w0 W : World} {p : Nat} {A : Option Addr} {n c : Nat} {l : List UInt8} {s : Nat × Bool}

set_option maxRecDepth 100000 in
set_option maxHeartbeats 4000000 in
theorem rdNum_any (hx : Ext w0 W) (hp : w0.heap.size ≤ p) (hb : Bys w0 A l) (hl : l.length = n) (hc : n ≤ c) (hn : n ≤ 30000) (hs : RdS W p A n c s) (hat : s.1 ≤ n) :
    Calls Tryd.prog 38 #[.pointer (some ⟨p, 0, none⟩)] W fun e w' => e = .returned (Vu (numS l s).1) ∧ RdS w' p A n c (numS l s).2 ∧ RX p W w' := by
  have hget := Lib.hid (fun W' (hX : Ext W W') => get_any A n c l s.1 W' (hb.ext (hx.trans hX)) hl hc hn)
  obtain ⟨d0, d1, _, _, _⟩ := hs.cells
  have c0 := cell_regrown d0
  have c1 := cell_regrown d1
  clear d0 d1
  have hs' := Lib.hid hs
  obtain ⟨at', b⟩ := s
  simp only at hat hget c1
  cases hg : getB l at' with
  | none =>
    rw [hg] at hget
    simp only [getRet] at hget
    have hnum : numS l (at', b) = (0, at', true) := by simp only [numS, hg]
    rw [hnum]
    clear hg hnum
    go_enter Tryd.func38, Tryd.ntmps38
    go_wp2_with fail
    refine wp_region_quiet_below (by kernel_rfl) (by kernel_rfl) ?_
    repeat go_big_quiet_step ((with_reducible exact Calls.in_regrown (hget.out _ (Ext.regrown _ _ _))))
    refine wpQuiet_nil ?_
    intro _ hw'
    obtain ⟨⟨dq, osq⟩, hw''⟩ := hw'
    subst hw''
    have hs2 := hs'.out.ext (Ext.regrown W dq osq)
    have hx2 := RX.ext (p := p) (Ext.regrown W dq osq)
    clear c0 c1
    generalize grow (redrawn W dq) osq = W2 at *
    go_wp2_with fail
    refine (pass_bad W2 p A n c at' b hs2 (by omega)).mono ?_
    rintro e w3 ⟨rfl, s3, x3⟩
    go_wp2
    go_ret
    exact ⟨rfl, s3, hx2.trans x3⟩
  | some vk =>
    obtain ⟨v, k⟩ := vk
    have hk := getB_size hg
    rw [hg] at hget
    simp only [getRet] at hget
    have hnum : numS l (at', b) = (v, at' + k, b) := by simp only [numS, hg]
    rw [hnum]
    clear hg hnum
    go_enter Tryd.func38, Tryd.ntmps38
    go_wp2_with fail
    refine wp_region_quiet_below (by kernel_rfl) (by kernel_rfl) ?_
    repeat go_big_quiet_step ((with_reducible exact Calls.in_regrown (hget.out _ (Ext.regrown _ _ _))))
    refine wpQuiet_nil ?_
    intro _ hw'
    obtain ⟨⟨dq, osq⟩, hw''⟩ := hw'
    subst hw''
    have hs2 := hs'.out.ext (Ext.regrown W dq osq)
    have hx2 := RX.ext (p := p) (Ext.regrown W dq osq)
    clear c0 c1
    generalize grow (redrawn W dq) osq = W2 at *
    go_wp2_with fail
    refine (pass_ok W2 p A n c at' b k hs2 (by omega) (by omega)).mono ?_
    rintro e w3 ⟨rfl, s3, x3⟩
    go_wp2
    go_ret
    exact ⟨rfl, s3, hx2.trans x3⟩

set_option maxRecDepth 100000 in
set_option maxHeartbeats 4000000 in
theorem rdTxt_any (hx : Ext w0 W) (hp : w0.heap.size ≤ p) (hb : Bys w0 A l) (hl : l.length = n) (hc : n ≤ c) (hn : n ≤ 30000) (hT : Tabs w0) (hs : RdS W p A n c s) (hat : s.1 ≤ n) :
    Calls Tryd.prog 54 #[.pointer (some ⟨p, 0, none⟩)] W fun e w' => e = .returned (Vt (txtS l s).1) ∧ RdS w' p A n c (txtS l s).2 ∧ RX p W w' := by
  have hget := Lib.hid (fun W' (hX : Ext W W') => getText_any A n c l s.1 W' (hb.ext (hx.trans hX)) hl hc hn (hT.ext (hx.trans hX)))
  obtain ⟨d0, d1, _, _, _⟩ := hs.cells
  have c0 := cell_regrown d0
  have c1 := cell_regrown d1
  clear d0 d1
  have hs' := Lib.hid hs
  obtain ⟨at', b⟩ := s
  simp only at hat hget c1
  cases hg : getT l at' with
  | none =>
    rw [hg] at hget
    simp only [getTRet] at hget
    have hnum : txtS l (at', b) = ([], at', true) := by simp only [txtS, hg]
    rw [hnum]
    clear hg hnum
    go_enter Tryd.func54, Tryd.ntmps54
    go_wp2_with fail
    refine wp_region_quiet_below (by kernel_rfl) (by kernel_rfl) ?_
    repeat go_big_quiet_step ((with_reducible exact Calls.in_regrown (hget.out _ (Ext.regrown _ _ _))))
    refine wpQuiet_nil ?_
    intro _ hw'
    obtain ⟨⟨dq, osq⟩, hw''⟩ := hw'
    subst hw''
    have hs2 := hs'.out.ext (Ext.regrown W dq osq)
    have hx2 := RX.ext (p := p) (Ext.regrown W dq osq)
    clear c0 c1
    generalize grow (redrawn W dq) osq = W2 at *
    go_wp2_with fail
    refine (pass_bad W2 p A n c at' b hs2 (by omega)).mono ?_
    rintro e w3 ⟨rfl, s3, x3⟩
    go_wp2
    go_ret
    exact ⟨rfl, s3, hx2.trans x3⟩
  | some vk =>
    obtain ⟨v, k⟩ := vk
    have hk := (getT_back' (l := l) (p := at') (by omega) hg).1
    rw [hg] at hget
    simp only [getTRet] at hget
    have hnum : txtS l (at', b) = (v, at' + k, b) := by simp only [txtS, hg]
    rw [hnum]
    clear hg hnum
    go_enter Tryd.func54, Tryd.ntmps54
    go_wp2_with fail
    refine wp_region_quiet_below (by kernel_rfl) (by kernel_rfl) ?_
    repeat go_big_quiet_step ((with_reducible exact Calls.in_regrown (hget.out _ (Ext.regrown _ _ _))))
    refine wpQuiet_nil ?_
    intro _ hw'
    obtain ⟨⟨dq, osq⟩, hw''⟩ := hw'
    subst hw''
    have hs2 := hs'.out.ext (Ext.regrown W dq osq)
    have hx2 := RX.ext (p := p) (Ext.regrown W dq osq)
    clear c0 c1
    generalize grow (redrawn W dq) osq = W2 at *
    go_wp2_with fail
    refine (pass_ok W2 p A n c at' b k hs2 (by omega) (by omega)).mono ?_
    rintro e w3 ⟨rfl, s3, x3⟩
    go_wp2
    go_ret
    exact ⟨rfl, s3, hx2.trans x3⟩

/-- what an Id's block holds -/
theorem blk2 {W : World} {q : Nat} {x y : Value} {t : TypeId} (h : W.heap[q]? = some (.cells #[x, y] t (0, 0))) : W.cell? ⟨q, 0, none⟩ = some x ∧ W.cell? ⟨q, 1, none⟩ = some y ∧ W.frozen? ⟨q, 0, none⟩ = false ∧ W.frozen? ⟨q, 1, none⟩ = false :=
  ⟨by rw [cell_of_row W q 0 _ _ _ h]; rfl, by rw [cell_of_row W q 1 _ _ _ h]; rfl, frozen_of_row W q 0 _ _ h, frozen_of_row W q 1 _ _ h⟩

set_option maxRecDepth 100000 in
set_option maxHeartbeats 4000000 in
theorem rdId_any (hx : Ext w0 W) (hp : w0.heap.size ≤ p) (hb : Bys w0 A l) (hl : l.length = n) (hc : n ≤ c) (hn : n ≤ 30000) (hs : RdS W p A n c s) (hat : s.1 ≤ n) :
    Calls Tryd.prog 53 #[.pointer (some ⟨p, 0, none⟩)] W fun e w' => e = .returned (idv (idS l s).1.1 (idS l s).1.2) ∧ RdS w' p A n c (idS l s).2 ∧ RX p W w' := by
  have hplt := hs.lt
  have hq0 : (W.alloc (.cells #[.int .u32 0, .int .u32 0] 47)).heap[W.heap.size]? = some (.cells #[.int .u32 0, .int .u32 0] 47 (0, 0)) := heap_alloc_new _ _
  have xa : Ext W (W.alloc (.cells #[.int .u32 0, .int .u32 0] 47)) := (Ext.refl _).alloc _
  have hs1 := hs.ext xa
  have h1 := numS_at l s (by rw [hl]; exact hat)
  have h2 := numS_at l _ h1.1
  have hc1 := Lib.hid (rdNum_any (hx.trans xa) hp hb hl hc hn hs1 hat)
  have hc2 := Lib.hid (fun (W' : World) (hX : Ext w0 W') (hS : RdS W' p A n c (numS l s).2) => rdNum_any hX hp hb hl hc hn hS (by rw [← hl]; exact h1.1))
  have hfin : idS l s = (((numS l s).1, (numS l (numS l s).2).1), (numS l (numS l s).2).2) := rfl
  rw [hfin]
  clear hfin hs hs1 h1 h2
  generalize numS l (numS l s).2 = r2 at *
  generalize numS l s = r1 at *
  obtain ⟨v1, s1⟩ := r1
  obtain ⟨v2, s2⟩ := r2
  simp only at hc1 hc2 ⊢
  have hne : W.heap.size ≠ p := by omega
  have hWq : ∃ q, q = W.heap.size := ⟨_, rfl⟩
  go_enter Tryd.func53, Tryd.ntmps53
  go_wp2_with fail
  refine hc1.out.mono ?_
  rintro e w1 ⟨rfl, s1', x1⟩
  have hX1 := (hx.trans xa).trans (Ext.refl _)
  have hx1 : Ext w0 w1 := RX.down (hx.trans xa) hp x1
  have hq1 := x1.blk hq0 hne
  go_wp2_with fail
  refine (hc2.out w1 hx1 s1').mono ?_
  rintro e w2 ⟨rfl, s2', x2⟩
  have hq2 := x2.blk hq1 hne
  obtain ⟨g0, g1, f0, f1⟩ := blk2 hq2
  go_wp2
  have hq3 := heap_setCell_same _ _ 1 _ _ (Vu v2) (heap_setCell_same _ _ 0 _ _ (Vu v1) hq2)
  obtain ⟨z0, z1, _, _⟩ := blk2 (x := Vu v1) (y := Vu v2) hq3
  refine bodyPost_ret (v := idv v1 v2) (by simp [results, Tryd.results53, go_sem, z0, z1]) rfl ⟨rfl, ?_, ((((RX.ext xa).trans x1).trans x2).set 0 _ (.inl (Nat.le_refl _))).set 1 _ (.inl (Nat.le_refl _))⟩
  unfold RdS at s2' ⊢
  rw [heap_setCell_other _ _ _ _ (fun e => hne e.symm), heap_setCell_other _ _ _ _ (fun e => hne e.symm)]
  exact s2'
end

end Go.Proofs.YthpminlfbjedpaaDoor

namespace Go.Proofs.YthpminlfbjedpaaDoor
open Go.ChangeShapes Go.WideShapes Go.ChangeAt Go.RowKit Go.Sort
set_option linter.unusedVariables false
attribute [local go_sem] World.cell?_alloc_some

section
variable {w0 W : World} {p : Nat} {A : Option Addr} {n c : Nat} {l : List UInt8} {s : Nat × Bool}

theorem blk3 {W : World} {q : Nat} {x y z : Value} {t : TypeId} (h : W.heap[q]? = some (.cells #[x, y, z] t (0, 0))) : (W.cell? ⟨q, 0, none⟩ = some x ∧ W.cell? ⟨q, 1, none⟩ = some y ∧ W.cell? ⟨q, 2, none⟩ = some z) ∧ W.frozen? ⟨q, 0, none⟩ = false ∧ W.frozen? ⟨q, 1, none⟩ = false ∧ W.frozen? ⟨q, 2, none⟩ = false :=
  ⟨⟨by rw [cell_of_row W q 0 _ _ _ h]; rfl, by rw [cell_of_row W q 1 _ _ _ h]; rfl, by rw [cell_of_row W q 2 _ _ _ h]; rfl⟩, frozen_of_row W q 0 _ _ h, frozen_of_row W q 1 _ _ h, frozen_of_row W q 2 _ _ h⟩
theorem blk7 {W : World} {q : Nat} {x0 x1 x2 x3 x4 x5 x6 : Value} {t : TypeId} (h : W.heap[q]? = some (.cells #[x0, x1, x2, x3, x4, x5, x6] t (0, 0))) :
    (W.cell? ⟨q, 0, none⟩ = some x0 ∧ W.cell? ⟨q, 1, none⟩ = some x1 ∧ W.cell? ⟨q, 2, none⟩ = some x2 ∧ W.cell? ⟨q, 3, none⟩ = some x3 ∧ W.cell? ⟨q, 4, none⟩ = some x4 ∧ W.cell? ⟨q, 5, none⟩ = some x5 ∧ W.cell? ⟨q, 6, none⟩ = some x6) ∧
    W.frozen? ⟨q, 0, none⟩ = false ∧ W.frozen? ⟨q, 1, none⟩ = false ∧ W.frozen? ⟨q, 2, none⟩ = false ∧ W.frozen? ⟨q, 3, none⟩ = false ∧ W.frozen? ⟨q, 4, none⟩ = false ∧ W.frozen? ⟨q, 5, none⟩ = false ∧ W.frozen? ⟨q, 6, none⟩ = false :=
  ⟨⟨by rw [cell_of_row W q 0 _ _ _ h]; rfl, by rw [cell_of_row W q 1 _ _ _ h]; rfl, by rw [cell_of_row W q 2 _ _ _ h]; rfl, by rw [cell_of_row W q 3 _ _ _ h]; rfl, by rw [cell_of_row W q 4 _ _ _ h]; rfl, by rw [cell_of_row W q 5 _ _ _ h]; rfl, by rw [cell_of_row W q 6 _ _ _ h]; rfl⟩,
    frozen_of_row W q 0 _ _ h, frozen_of_row W q 1 _ _ h, frozen_of_row W q 2 _ _ h, frozen_of_row W q 3 _ _ h, frozen_of_row W q 4 _ _ h, frozen_of_row W q 5 _ _ h, frozen_of_row W q 6 _ _ h⟩

set_option maxRecDepth 100000 in
set_option maxHeartbeats 4000000 in
theorem rdSpan_any (hx : Ext w0 W) (hp : w0.heap.size ≤ p) (hb : Bys w0 A l) (hl : l.length = n) (hc : n ≤ c) (hn : n ≤ 30000) (hs : RdS W p A n c s) (hat : s.1 ≤ n) :
    Calls Tryd.prog 40 #[.pointer (some ⟨p, 0, none⟩)] W fun e w' => e = .returned (spv (spanS l s).1.1 (spanS l s).1.2.1 (spanS l s).1.2.2) ∧ RdS w' p A n c (spanS l s).2 ∧ RX p W w' := by
  have hplt := hs.lt
  have hq0 : (W.alloc (.cells #[.int .u32 0, .int .u32 0, .int .u32 0] 62)).heap[W.heap.size]? = some (.cells #[.int .u32 0, .int .u32 0, .int .u32 0] 62 (0, 0)) := heap_alloc_new _ _
  have xa : Ext W (W.alloc (.cells #[.int .u32 0, .int .u32 0, .int .u32 0] 62)) := (Ext.refl _).alloc _
  have hs1 := hs.ext xa
  have h1 := numS_at l s (by rw [hl]; exact hat)
  have h2 := numS_at l _ h1.1
  have hc1 := Lib.hid (rdNum_any (hx.trans xa) hp hb hl hc hn hs1 hat)
  have hc2 := Lib.hid (fun (W' : World) (hX : Ext w0 W') (hS : RdS W' p A n c (numS l s).2) => rdNum_any hX hp hb hl hc hn hS (by rw [← hl]; exact h1.1))
  have hc3 := Lib.hid (fun (W' : World) (hX : Ext w0 W') (hS : RdS W' p A n c (numS l (numS l s).2).2) => rdNum_any hX hp hb hl hc hn hS (by rw [← hl]; exact h2.1))
  have hfin : spanS l s = (((((numS l s).1 : Nat) : Int), (((numS l (numS l s).2).1 : Nat) : Int), (((numS l (numS l (numS l s).2).2).1 : Nat) : Int)), (numS l (numS l (numS l s).2).2).2) := rfl
  rw [hfin]
  clear hfin hs hs1 h1 h2
  generalize numS l (numS l (numS l s).2).2 = r3 at *
  generalize numS l (numS l s).2 = r2 at *
  generalize numS l s = r1 at *
  obtain ⟨v1, s1⟩ := r1
  obtain ⟨v2, s2⟩ := r2
  obtain ⟨v3, s3⟩ := r3
  simp only at hc1 hc2 hc3 ⊢
  have hne : W.heap.size ≠ p := by omega
  go_enter Tryd.func40, Tryd.ntmps40
  go_wp2_with fail
  refine hc1.out.mono ?_
  rintro e w1 ⟨rfl, s1', x1⟩
  have hx1 : Ext w0 w1 := RX.down (hx.trans xa) hp x1
  have hq1 := x1.blk hq0 hne
  go_wp2_with fail
  refine (hc2.out w1 hx1 s1').mono ?_
  rintro e w2 ⟨rfl, s2', x2⟩
  have hx2 : Ext w0 w2 := RX.down hx1 hp x2
  have hq2 := x2.blk hq1 hne
  go_wp2_with fail
  refine (hc3.out w2 hx2 s2').mono ?_
  rintro e w3 ⟨rfl, s3', x3⟩
  have hq3 := x3.blk hq2 hne
  obtain ⟨⟨g0, g1, g2⟩, f0, f1, f2⟩ := blk3 hq3
  go_wp2
  have hq4 := heap_setCell_same _ _ 2 _ _ (Vu v3) (heap_setCell_same _ _ 1 _ _ (Vu v2) (heap_setCell_same _ _ 0 _ _ (Vu v1) hq3))
  obtain ⟨⟨z0, z1, z2⟩, _⟩ := blk3 (x := Vu v1) (y := Vu v2) (z := Vu v3) hq4
  refine bodyPost_ret (v := spv v1 v2 v3) (by simp [results, Tryd.results40, go_sem, z0, z1, z2]) rfl ⟨rfl, ?_, ((((((RX.ext xa).trans x1).trans x2).trans x3).set 0 _ (.inl (Nat.le_refl _))).set 1 _ (.inl (Nat.le_refl _))).set 2 _ (.inl (Nat.le_refl _))⟩
  unfold RdS at s3' ⊢
  rw [heap_setCell_other _ _ _ _ (fun e => hne e.symm), heap_setCell_other _ _ _ _ (fun e => hne e.symm), heap_setCell_other _ _ _ _ (fun e => hne e.symm)]
  exact s3'

set_option maxRecDepth 100000 in
set_option maxHeartbeats 4000000 in
theorem rdRun_any (hx : Ext w0 W) (hp : w0.heap.size ≤ p) (hb : Bys w0 A l) (hl : l.length = n) (hc : n ≤ c) (hn : n ≤ 30000) (hT : Tabs w0) (hs : RdS W p A n c s) (hat : s.1 ≤ n) :
    Calls Tryd.prog 39 #[.pointer (some ⟨p, 0, none⟩)] W fun e w' => e = .returned (rnv (runS l s).1) ∧ RdS w' p A n c (runS l s).2 ∧ RX p W w' := by
  have hplt := hs.lt
  have hq0 : (W.alloc (.cells #[.int .u32 0, .int .u32 0, .int .u32 0, .int .u32 0, .int .u32 0, .int .u32 0, .string ⟨#[]⟩] 49)).heap[W.heap.size]? = some (.cells #[.int .u32 0, .int .u32 0, .int .u32 0, .int .u32 0, .int .u32 0, .int .u32 0, .string ⟨#[]⟩] 49 (0, 0)) := heap_alloc_new _ _
  have xa : Ext W (W.alloc (.cells #[.int .u32 0, .int .u32 0, .int .u32 0, .int .u32 0, .int .u32 0, .int .u32 0, .string ⟨#[]⟩] 49)) := (Ext.refl _).alloc _
  have hs1 := hs.ext xa
  have h1 := idS_at l s (by rw [hl]; exact hat)
  have h2 := idS_at l _ h1
  have h3 := idS_at l _ h2
  have hc1 := Lib.hid (rdId_any (hx.trans xa) hp hb hl hc hn hs1 hat)
  have hc2 := Lib.hid (fun (W' : World) (hX : Ext w0 W') (hS : RdS W' p A n c (idS l s).2) => rdId_any hX hp hb hl hc hn hS (by rw [← hl]; exact h1))
  have hc3 := Lib.hid (fun (W' : World) (hX : Ext w0 W') (hS : RdS W' p A n c (idS l (idS l s).2).2) => rdId_any hX hp hb hl hc hn hS (by rw [← hl]; exact h2))
  have hc4 := Lib.hid (fun (W' : World) (hX : Ext w0 W') (hS : RdS W' p A n c (idS l (idS l (idS l s).2).2).2) => rdTxt_any hX hp hb hl hc hn hT hS (by rw [← hl]; exact h3))
  have hfin : runS l s = (⟨(idS l s).1.1, (idS l s).1.2, (idS l (idS l s).2).1.1, (idS l (idS l s).2).1.2, (idS l (idS l (idS l s).2).2).1.1, (idS l (idS l (idS l s).2).2).1.2, (txtS l (idS l (idS l (idS l s).2).2).2).1⟩, (txtS l (idS l (idS l (idS l s).2).2).2).2) := rfl
  rw [hfin]
  clear hfin hs hs1 h1 h2 h3
  generalize txtS l (idS l (idS l (idS l s).2).2).2 = r4 at *
  generalize idS l (idS l (idS l s).2).2 = r3 at *
  generalize idS l (idS l s).2 = r2 at *
  generalize idS l s = r1 at *
  obtain ⟨⟨a1, b1⟩, s1⟩ := r1
  obtain ⟨⟨a2, b2⟩, s2⟩ := r2
  obtain ⟨⟨a3, b3⟩, s3⟩ := r3
  obtain ⟨t4, s4⟩ := r4
  simp only at hc1 hc2 hc3 hc4 ⊢
  have hne : W.heap.size ≠ p := by omega
  go_enter Tryd.func39, Tryd.ntmps39
  go_wp2_with fail
  refine hc1.out.mono ?_
  rintro e w1 ⟨rfl, s1', x1⟩
  have hx1 : Ext w0 w1 := RX.down (hx.trans xa) hp x1
  have hq1 := x1.blk hq0 hne
  go_wp2_with fail
  refine (hc2.out w1 hx1 s1').mono ?_
  rintro e w2 ⟨rfl, s2', x2⟩
  have hx2 : Ext w0 w2 := RX.down hx1 hp x2
  have hq2 := x2.blk hq1 hne
  go_wp2_with fail
  refine (hc3.out w2 hx2 s2').mono ?_
  rintro e w3 ⟨rfl, s3', x3⟩
  have hx3 : Ext w0 w3 := RX.down hx2 hp x3
  have hq3 := x3.blk hq2 hne
  go_wp2_with fail
  refine (hc4.out w3 hx3 s3').mono ?_
  rintro e w4 ⟨rfl, s4', x4⟩
  have hq4 := x4.blk hq3 hne
  obtain ⟨⟨g0, g1, g2, g3, g4, g5, g6⟩, f0, f1, f2, f3, f4, f5, f6⟩ := blk7 hq4
  go_wp2
  have hq5 := heap_setCell_same _ _ 6 _ _ (Vt t4) (heap_setCell_same _ _ 5 _ _ (Vu b3) (heap_setCell_same _ _ 4 _ _ (Vu a3) (heap_setCell_same _ _ 3 _ _ (Vu b2) (heap_setCell_same _ _ 2 _ _ (Vu a2) (heap_setCell_same _ _ 1 _ _ (Vu b1) (heap_setCell_same _ _ 0 _ _ (Vu a1) hq4))))))
  obtain ⟨⟨z0, z1, z2, z3, z4, z5, z6⟩, _⟩ := blk7 (x0 := Vu a1) (x1 := Vu b1) (x2 := Vu a2) (x3 := Vu b2) (x4 := Vu a3) (x5 := Vu b3) (x6 := Vt t4) hq5
  refine bodyPost_ret (v := rnv ⟨a1, b1, a2, b2, a3, b3, t4⟩) (by simp [results, Tryd.results39, go_sem, z0, z1, z2, z3, z4, z5, z6]) rfl ⟨rfl, ?_, ((((((((((((RX.ext xa).trans x1).trans x2).trans x3).trans x4).set 0 _ (.inl (Nat.le_refl _))).set 1 _ (.inl (Nat.le_refl _))).set 2 _ (.inl (Nat.le_refl _))).set 3 _ (.inl (Nat.le_refl _))).set 4 _ (.inl (Nat.le_refl _))).set 5 _ (.inl (Nat.le_refl _))).set 6 _ (.inl (Nat.le_refl _)))⟩
  unfold RdS at s4' ⊢
  iterate 7 rw [heap_setCell_other _ _ _ _ (fun e => hne e.symm)]
  exact s4'
end

end Go.Proofs.YthpminlfbjedpaaDoor

namespace Go.Proofs.YthpminlfbjedpaaDoor
open Go.ChangeShapes Go.WideShapes Go.ChangeAt Go.RowKit Go.Sort
set_option linter.unusedVariables false

theorem infoS : (Tryd.prog.info? 62).map (fun i => (i.zero, i.size, i.bytes)) = some (some (.agg #[.int .u32 0, .int .u32 0, .int .u32 0]), 3, 12) := by kernel_rfl
theorem fromS (A : Option Addr) (n cap : Nat) (k : Int) (W : World) (h0 : 0 ≤ k) (h1 : k ≤ n) :
    (Instr.slice 23 (.slice A n cap) (some (.int .i64 k)) none none).run Tryd.prog W = .ok (.slice (cutA A cap k.toNat 3) (n - k.toNat) (cap - k.toNat)) W := by
  obtain ⟨i, hi, hz0, hz1, hz2⟩ := info_parts infoS
  have := run_from Tryd.underlying23 hi A n cap k W h0 h1
  rw [hz1] at this
  exact this
theorem fromSN (A : Option Addr) (n cap k : Nat) (h1 : k ≤ n) (z : Int) (hz : z = k) (W : World) : (Instr.slice 23 (.slice A n cap) (some (.int .i64 z)) none none).run Tryd.prog W = .ok (.slice (cutA A cap k 3) (n - k) (cap - k)) W := by
  subst hz; exact fromS A n cap k W (by omega) (by omega)
def roomS (c : Nat) : Array Value := roomC (.agg #[.int .u32 0, .int .u32 0, .int .u32 0]) (c * 3)
theorem roomS_run (c : Nat) (h1 : c ≤ 3000) (k : Int) (hk : k = c) (W : World) :
    (Instr.makeSlice 23 (.int .i64 0) (.int .i64 k)).run Tryd.prog W = .ok (.slice (some ⟨W.heap.size, 0, none⟩) 0 c) (W.alloc (.cells (roomS c) 62)) := by
  subst hk
  obtain ⟨i, hi, hz0, hz1, hz2⟩ := info_parts infoS
  have := run_room Tryd.underlying23 hi hz0 hz1 hz2 (c : Int) W (by omega) (by omega) (by omega)
  rwa [Int.toNat_natCast] at this

/-- a row of the call's own -/
def OwnS (w W : World) (v : Value) (l : List (Int × Int × Int)) : Prop := W.ownsRow w.heap.size 62 3 v l.length (flat encS l)
theorem OwnS.nil (w W : World) : OwnS w W (.slice none 0 0) [] := World.ownsRow_nil W _ _ _
theorem OwnS.room {w0 W : World} (hx : Ext w0 W) (c : Nat) (h1 : c ≤ 3000) : OwnS w0 (W.alloc (.cells (roomS c) 62)) (.slice (some ⟨W.heap.size, 0, none⟩) 0 c) [] :=
  World.ownsRow_made W _ _ hx.size (by unfold maxLen; omega) (roomC_size _ _)
theorem OwnS.alloc {w W : World} {v : Value} {l : List (Int × Int × Int)} (h : OwnS w W v l) (o : Obj) : OwnS w (W.alloc o) v l := World.ownsRow.alloc h o
theorem OwnS.ext {w W W' : World} {v : Value} {l : List (Int × Int × Int)} (h : OwnS w W v l) (hx : Ext W W') : OwnS w W' v l := by
  unfold OwnS at h ⊢
  rcases h with ⟨h1, h2 | ⟨g, cap, cur, h2, h3, h4, h5⟩⟩
  · exact ⟨h1, .inl h2⟩
  · refine ⟨h1, .inr ⟨g, cap, cur, h2, h3, ?_, h5⟩⟩
    have hg : g < W.heap.size := by
      rcases Nat.lt_or_ge g W.heap.size with k | k
      · exact k
      · rw [Array.getElem?_eq_none k] at h4; cases h4
    rw [RowKit.Below.block hx g hg]; exact h4
theorem OwnS.form {w W : World} {v : Value} {l : List (Int × Int × Int)} (h : OwnS w W v l) : ∃ A c, v = .slice A l.length c := by
  rcases h.2 with ⟨rfl, h0⟩ | ⟨g, cap, cur, rfl, _⟩
  · exact ⟨none, 0, by rw [h0]⟩
  · exact ⟨_, _, rfl⟩
theorem OwnS.lt {w W : World} {v : Value} {l : List (Int × Int × Int)} (h : OwnS w W v l) : ∀ k, v.ownBlock = some k → w.heap.size ≤ k := fun k hk => (World.ownsRow.lt h k hk).1
theorem SpS.own {w W : World} {v : Value} {l : List (Int × Int × Int)} (h : OwnS w W v l) : ∃ A c, v = .slice A l.length c ∧ SpS W A l := by
  obtain ⟨A, c, rfl⟩ := h.form
  exact ⟨A, c, rfl, Row.own h⟩
/-- a row of the call's own that has elements: its block -/
theorem OwnS.block {w W : World} {v : Value} {l : List (Int × Int × Int)} (h : OwnS w W v l) (h0 : 0 < l.length) : ∃ g c, v = .slice (some ⟨g, 0, none⟩) l.length c ∧ w.heap.size ≤ g ∧ g < W.heap.size := by
  obtain ⟨g, cap, hv, _, hlt⟩ := World.ownsRow.form h h0
  subst hv
  have := World.ownsRow.lt h g rfl
  exact ⟨g, cap, rfl, this.1, this.2⟩

/-- a slice of spans is told, and nothing that was there has turned -/
def RetS (w : World) (l : List (Int × Int × Int)) (e : Ending) (w' : World) : Prop := ∃ A n c, e = .returned (.slice A n c) ∧ l.length = n ∧ n ≤ c ∧ SpS w' A l ∧ Ext w w'
theorem OwnS.cap {w W : World} {A : Option Addr} {n c : Nat} {l : List (Int × Int × Int)} (h : OwnS w W (.slice A n c) l) : n ≤ c := by
  rcases h.2 with ⟨h1, h0⟩ | ⟨g, cap, cur, h1, _, _, h2, _⟩
  · injection h1 with _ e1 e2; omega
  · injection h1 with _ e1 e2; omega

/-- spans are appended to a row of the call's own -/
theorem wpList_append_S {w0 w : World} {ops : Array Oper} {rest : List Oper} {o : Oper} {a : Act} {Q : Exit → Act → World → Prop} (hgd : o.guard = none) (s x : Operand)
    (ho : o.op = .call { callee := .builtin .append, args := #[s, x], argTypes := #[23, 23] })
    (v : Value) (l : List (Int × Int × Int)) (hs : a.eval s = v) (hown : OwnS w0 w v l) (hx : Ext w0 w)
    (A : Option Addr) (m c : Nat) (r : List (Int × Int × Int)) (he : a.eval x = .slice A m c) (hm : r.length = m) (hr : SpS w A r) (hb : l.length + r.length ≤ 3000)
    (h : ∀ v' w', OwnS w0 w' v' (l ++ r) → Ext w0 w' → w.grownBy w' v.ownBlock → wpList Tryd.prog ops Q rest (a.put o.dst v') w') : wpList Tryd.prog ops Q (o :: rest) a w := by
  obtain ⟨i, hi, hz0, hz1, hz2⟩ := info_parts infoS
  subst hm
  refine wpList_append_row w hgd s x _ ho w0.heap.size 62 i _ 3 12 Tryd.underlying23 hi hz0 hz1 hz2 rfl (by omega) v l.length _ hs hown A r.length c _ he (flat_len encS_len r) hr (flat_one_cell encS_one r)
    (by unfold maxLen; omega) (by omega) hx.size ?_
  intro v' w' h1 h2
  refine h v' w' ?_ (hx.grown h2 hown.lt) h2
  unfold OwnS
  rw [flat_append, List.length_append]
  exact h1

theorem SpS.cut {w : World} {A : Option Addr} {l : List (Int × Int × Int)} (h : SpS w A l) {n cap k : Nat} (hn : l.length = n) (hc : n ≤ cap) (hk : k ≤ n) : SpS w (cutA A cap k 3) (l.drop k) := by
  unfold SpS; rw [flat_drop encS_len]; exact Row.cut h (n := n) (by rw [flat_len encS_len, hn]) hc hk
theorem SpS.new (w : World) (x y z : Int) : SpS (w.alloc (.cells #[.int .u32 x, .int .u32 y, .int .u32 z] 62)) (some ⟨w.heap.size, 0, none⟩) [(x, y, z)] := Row.new w #[.int .u32 x, .int .u32 y, .int .u32 z] 62

theorem flat_set_last (l : List (Int × Int × Int)) (x y z u : Int) : (flat encS (l ++ [(x, y, z)])).set (l.length * 3 + 2) (Vu u) = flat encS (l ++ [(x, y, u)]) := by
  rw [flat_append, flat_append, List.set_append_right _ _ (by rw [flat_len encS_len]; omega), flat_len encS_len, show l.length * 3 + 2 - l.length * 3 = 2 by omega]
  rfl
/-- the last span's To is stored into -/
theorem OwnS.last {w W : World} {g c : Nat} {l : List (Int × Int × Int)} {x y z : Int} (h : OwnS w W (.slice (some ⟨g, 0, none⟩) (l ++ [(x, y, z)]).length c) (l ++ [(x, y, z)])) (u : Int) :
    OwnS w (W.setCell ⟨g, l.length * 3 + 2, none⟩ (Vu u)) (.slice (some ⟨g, 0, none⟩) (l ++ [(x, y, z)]).length c) (l ++ [(x, y, u)]) := by
  have := (World.ownsRow.stored h (l.length * 3 + 2) (Vu u)).1
  rw [flat_set_last] at this
  unfold OwnS
  rw [show (l ++ [(x, y, u)]).length = (l ++ [(x, y, z)]).length by simp]
  exact this

end Go.Proofs.YthpminlfbjedpaaDoor

namespace Go.Proofs.YthpminlfbjedpaaDoor
open Go.ChangeShapes Go.WideShapes Go.ChangeAt Go.RowKit Go.Sort
set_option linter.unusedVariables false

/-- what a slot holds, told of its value and of the world -/
abbrev Told := Value → World → Prop
/-- a row for each operation: its slot, and what that is told to hold -/
abbrev SoftTab := List (Nat × Told)

/-- the slots that are filled hold what is told; the others are as they were -/
structure SoftAt (tab : SoftTab) (a0 a : Act) (w W : World) (listed : Array Bool) : Prop where
  ext : Ext w W
  defers : a.defers = a0.defers
  size : a.tmps.size = a0.tmps.size
  out : ∀ t, t ∉ tab.map (·.1) → a.tmps[t]? = a0.tmps[t]?
  told : ∀ (k d : Nat) (R : Told), tab[k]? = some (d, R) → listed.getD k false = true → R (a.tmps.getD d undef) W

/-- one operation, whenever it comes up -/
def SoftStep (P : Program) (ops : Array Oper) (tab : SoftTab) (Q : Exit → Act → World → Prop) (a0 : Act) (w : World) (k : Nat) (o : Oper) : Prop :=
  ∀ a W, Ext w W → (∀ t, t ∉ tab.map (·.1) → a.tmps.getD t undef = a0.tmps.getD t undef) → (∀ e ∈ o.after.toList, Region.binds .any e = true → ∀ (d : Nat) (R : Told), tab[e.on]? = some (d, R) → R (a.tmps.getD d undef) W ∧ d < a.tmps.size) →
    ∀ (d : Nat) (R : Told), tab[k]? = some (d, R) → wpOp P ops Q k (fun a' W' => ∃ v, a' = a.put (some d) v ∧ R v W' ∧ Ext W W') a W

theorem tab_ne {tab : SoftTab} (hnd : (tab.map (·.1)).Nodup) {j k d1 d2 : Nat} {R1 R2 : Told} (h1 : tab[j]? = some (d1, R1)) (h2 : tab[k]? = some (d2, R2)) (hjk : j ≠ k) : d1 ≠ d2 := by
  intro e
  have e1 : (tab.map (·.1))[j]? = some d1 := by simp [h1]
  have e2 : (tab.map (·.1))[k]? = some d1 := by simp [h2, e]
  obtain ⟨hj, e1⟩ := List.getElem?_eq_some_iff.1 e1
  obtain ⟨hk, e2⟩ := List.getElem?_eq_some_iff.1 e2
  have hp := List.pairwise_iff_getElem.1 hnd
  rcases Nat.lt_or_gt_of_ne hjk with h | h
  · exact hp j k hj hk h (e1.trans e2.symm)
  · exact hp k j hk hj h (e2.trans e1.symm)

theorem count_set : ∀ (l : List Bool) (i : Nat), l[i]? = some false → (l.set i true).count false + 1 = l.count false
  | [], i, h => by simp at h
  | b :: l, 0, h => by
    obtain rfl : b = false := by simpa using h
    simp
  | b :: l, i + 1, h => by
    have := count_set l i (by simpa using h)
    rw [List.set_cons_succ, List.count_cons, List.count_cons]
    omega

theorem wpAny_soft {P : Program} {l : List Oper} {tab : SoftTab} {Q : Exit → Act → World → Prop} {a0 : Act} {w : World}
    (hlen : tab.length = l.length) (hnd : (tab.map (·.1)).Nodup) (hsz : ∀ d ∈ tab.map (·.1), d < a0.tmps.size)
    (hback : ∀ (k : Nat) (o : Oper), l[k]? = some o → ∀ e ∈ o.after.toList, e.on < k)
    (hmono : ∀ (k d : Nat) (R : Told), tab[k]? = some (d, R) → ∀ (v : Value) (W W' : World), R v W → Ext W W' → R v W')
    (hstep : ∀ (k : Nat) (o : Oper), l[k]? = some o → SoftStep P l.toArray tab Q a0 w k o)
    (hend : ∀ a W, SoftAt tab a0 a w W (Array.replicate l.length true) → Q .normal a W) :
    ∀ (fuel : Nat) (listed : Array Bool) (a : Act) (W : World), listed.size = l.length → listed.toList.count false ≤ fuel → SoftAt tab a0 a w W listed → wpAny P .any l.toArray Q fuel listed a W := by
  have hall : ∀ (listed : Array Bool), listed.size = l.length → Region.ready .any l.toArray listed = [] → listed = Array.replicate l.length true := by
    intro listed hs hr
    have key : ∀ k, k < l.length → listed.getD k false = true := by
      intro k
      induction k using Nat.strongRecOn with
      | ind k ih =>
        intro hk
        rcases hb : listed.getD k false with _ | _
        · exfalso
          have hk' : k < listed.size := by omega
          have hm : k ∈ Region.ready .any l.toArray listed := by
            rw [mem_ready]
            refine ⟨?_, l[k], by simp [hk], fun e he hb' => ?_⟩
            · simp only [Array.getD, hk', dif_pos] at hb ⊢; exact hb
            · have hlt := hback k l[k] (List.getElem?_eq_getElem hk) e (by simpa using he)
              exact ih e.on hlt (by omega)
          rw [hr] at hm
          cases hm
        · rfl
    apply Array.ext
    · simp [hs]
    · intro i h1 h2
      have := key i (by omega)
      simp only [Array.getD, h1, dif_pos] at this
      simpa using this
  intro fuel
  induction fuel with
  | zero =>
    intro listed a W hs hc hI
    have h0 : Region.ready .any l.toArray listed = [] := by
      apply List.eq_nil_iff_forall_not_mem.2
      intro j hj
      obtain ⟨h1, o, ho, _⟩ := mem_ready.1 hj
      have hjl : j < listed.size := by
        have := (Array.getElem?_eq_some_iff.1 ho).1
        simp at this
        omega
      have : false ∈ listed.toList := by
        have e : listed[j] = false := by simpa [Array.getD, hjl] using h1
        rw [← e]; simp
      have := List.count_pos_iff.2 this
      omega
    refine ⟨h0, ?_⟩
    rw [hall listed hs h0] at hI
    exact hend a W hI
  | succ fuel ih =>
    intro listed a W hs hc hI
    refine ⟨fun h0 => by rw [hall listed hs h0] at hI; exact hend a W hI, fun i hi => ?_⟩
    obtain ⟨h1, o, ho, hdep⟩ := mem_ready.1 hi
    have hlo : l[i]? = some o := by simpa using ho
    have hil : i < l.length := (List.getElem?_eq_some_iff.1 hlo).1
    obtain ⟨⟨d, R⟩, htab⟩ : ∃ p, tab[i]? = some p := ⟨tab[i], List.getElem?_eq_getElem (by omega)⟩
    have hdsz : d < a.tmps.size := by rw [hI.size]; exact hsz d (List.mem_map.2 ⟨(d, R), List.mem_of_getElem? htab, rfl⟩)
    have hst := hstep i o hlo a W hI.ext (fun t ht => by simp only [Array.getD_eq_getD_getElem?, hI.out t ht]) (fun e he hb d' R' ht' =>
      ⟨hI.told e.on d' R' ht' (hdep e (by simpa using he) hb), by rw [hI.size]; exact hsz d' (List.mem_map.2 ⟨(d', R'), List.mem_of_getElem? ht', rfl⟩)⟩) d R htab
    refine wpOp_mono (fun a' W' hh => ?_) hst
    obtain ⟨v, rfl, hR, hx⟩ := hh
    have hil' : i < listed.size := by omega
    refine ih _ _ _ (by simp [hs]) ?_ ⟨hI.ext.trans hx, hI.defers, by simp only [Act.put, Array.size_setIfInBounds]; exact hI.size, ?_, ?_⟩
    · have e : listed.toList[i]? = some false := by
        have : listed[i] = false := by simpa [Array.getD, hil'] using h1
        simp [hil', this]
      have := count_set listed.toList i e
      simp only [Array.toList_setIfInBounds]
      omega
    · intro t ht
      have hne : d ≠ t := fun e => ht (e ▸ List.mem_map.2 ⟨(d, R), List.mem_of_getElem? htab, rfl⟩)
      simp only [Act.put]
      rw [Array.getElem?_setIfInBounds_ne hne]
      exact hI.out t ht
    · intro k d2 R2 ht2 hl2
      simp only [Act.put]
      by_cases hki : k = i
      · subst hki
        obtain ⟨rfl, rfl⟩ : d = d2 ∧ R = R2 := by rw [htab] at ht2; injection ht2 with e; injection e with e1 e2; exact ⟨e1, e2⟩
        simp [hdsz]
        exact hR
      · have hne : d ≠ d2 := tab_ne hnd htab ht2 (fun e => hki e.symm)
        have h3 : listed.getD k false = true := by rw [getD_set_ne false (fun e => hki e.symm)] at hl2; exact hl2
        have := hmono k d2 R2 ht2 _ _ _ (hI.told k d2 R2 ht2 h3) hx
        simp only [Array.getD_eq_getD_getElem?, Array.getElem?_setIfInBounds_ne hne]
        simp only [Array.getD_eq_getD_getElem?] at this
        exact this

/-- the region, by what its slots are told to hold -/
theorem wp_region_soft {P : Program} {l : List Oper} (tab : SoftTab) {Q : Exit → Act → World → Prop} {a : Act} {w : World} {id : Nat} (hm : P.follows .mixedOrders = true)
    (hlen : tab.length = l.length) (hnd : (tab.map (·.1)).Nodup) (hsz : ∀ d ∈ tab.map (·.1), d < a.tmps.size)
    (hback : ∀ (k : Nat) (o : Oper), l[k]? = some o → ∀ e ∈ o.after.toList, e.on < k)
    (hmono : ∀ (k d : Nat) (R : Told), tab[k]? = some (d, R) → ∀ (v : Value) (W W' : World), R v W → Ext W W' → R v W')
    (hstep : ∀ (k : Nat) (o : Oper), l[k]? = some o → SoftStep P l.toArray tab Q a w k o)
    (hend : ∀ a' W, SoftAt tab a a' w W (Array.replicate l.length true) → Q .normal a' W) : (Code.region id l.toArray true).wp P Q a w := by
  refine wp_region_any hm ?_
  have := wpAny_soft (P := P) (Q := Q) hlen hnd hsz hback hmono hstep hend l.length (Array.replicate l.length false) a { w with drawn := w.drawn + 1 } (by simp) (by simp) ⟨(Ext.refl w).drew, rfl, rfl, fun _ _ => rfl, fun k d R h1 h2 => by
    exfalso
    simp [Array.getD_eq_getD_getElem?, Array.getElem?_replicate] at h2
    split at h2 <;> simp at h2⟩
  simpa using this

theorem soft_wanted {ops : Array Oper} {o : Oper} {a : Act} {g dg : Nat} {b : Bool} (hg : o.guard = some (g, b)) (hd : (ops[g]?).bind (·.dst) = some dg) (hv : a.tmps.getD dg undef = .bool b ∧ dg < a.tmps.size) : Region.wanted o (yielded ops a.tmps) = true := by
  have h1 : a.tmps[dg]? = some (.bool b) := by
    have := hv.1
    simp only [Array.getD, hv.2, dif_pos] at this
    rw [Array.getElem?_eq_getElem hv.2]
    exact congrArg some this
  simp [Region.wanted, hg, yielded, hd, h1]

/-- an operation that yields a value -/
theorem soft_val {P : Program} {ops : Array Oper} {tab : SoftTab} {Q : Exit → Act → World → Prop} {a0 : Act} {w : World} {k : Nat} {o : Oper} (d : Nat) (R : Told) (hk : ops[k]? = some o) (hd : o.dst = some d) (htab : tab[k]? = some (d, R))
    (h : ∀ (a : Act) (W : World), Ext w W → (∀ t, t ∉ tab.map (·.1) → a.tmps.getD t undef = a0.tmps.getD t undef) → (∀ e ∈ o.after.toList, Region.binds .any e = true → ∀ (d : Nat) (R : Told), tab[e.on]? = some (d, R) → R (a.tmps.getD d undef) W ∧ d < a.tmps.size) →
      Region.wanted o (yielded ops a.tmps) = true ∧ ∃ v W', (execOp a.eval o).run P W = .ok (.value v) W' ∧ R v W' ∧ Ext W W') : SoftStep P ops tab Q a0 w k o := by
  intro a W hx hout hdep d' R' ht
  rw [htab] at ht
  injection ht with ht
  injection ht with e1 e2
  subst e1
  subst e2
  obtain ⟨hw, v, W', hrun, hR, hE⟩ := h a W hx hout hdep
  unfold wpOp
  simp only [hk]
  rw [if_pos hw]
  refine Or.inl ?_
  unfold Oper.wp
  rw [hrun, Oper.upon_value, hd]
  exact ⟨v, rfl, hR, hE⟩
/-- a call -/
theorem soft_call {P : Program} {ops : Array Oper} {tab : SoftTab} {Q : Exit → Act → World → Prop} {a0 : Act} {w : World} {k : Nat} {o : Oper} (d : Nat) (R : Told) (hk : ops[k]? = some o) (hd : o.dst = some d) (htab : tab[k]? = some (d, R))
    (h : ∀ (a : Act) (W : World), Ext w W → (∀ t, t ∉ tab.map (·.1) → a.tmps.getD t undef = a0.tmps.getD t undef) → (∀ e ∈ o.after.toList, Region.binds .any e = true → ∀ (d : Nat) (R : Told), tab[e.on]? = some (d, R) → R (a.tmps.getD d undef) W ∧ d < a.tmps.size) →
      Region.wanted o (yielded ops a.tmps) = true ∧ ∃ f args, (execOp a.eval o).run P W = .ok (.enter f args) W ∧ Calls P f args W fun e W' => ∃ v, e = .returned v ∧ R v W' ∧ Ext W W') : SoftStep P ops tab Q a0 w k o := by
  intro a W hx hout hdep d' R' ht
  rw [htab] at ht
  injection ht with ht
  injection ht with e1 e2
  subst e1
  subst e2
  obtain ⟨hw, f, args, hrun, hc⟩ := h a W hx hout hdep
  unfold wpOp
  simp only [hk]
  rw [if_pos hw]
  refine Or.inl ?_
  unfold Oper.wp
  rw [hrun, Oper.upon_enter]
  refine hc.mono ?_
  rintro e W' ⟨v, rfl, hR, hE⟩
  rw [hd]
  exact ⟨v, rfl, hR, hE⟩

def softBack (l : List Oper) : Bool := (List.range l.length).all fun k => match l[k]? with
  | some o => o.after.toList.all fun e => decide (e.on < k)
  | none => true
theorem softBack_spec {l : List Oper} (h : softBack l = true) : ∀ (k : Nat) (o : Oper), l[k]? = some o → ∀ e ∈ o.after.toList, e.on < k := by
  intro k o ho e he
  have hk : k < l.length := (List.getElem?_eq_some_iff.1 ho).1
  have := List.all_eq_true.1 h k (List.mem_range.2 hk)
  simp only [ho] at this
  simpa using List.all_eq_true.1 this e he
/-- each operation in its turn -/
def SoftAll (P : Program) (ops : Array Oper) (tab : SoftTab) (Q : Exit → Act → World → Prop) (a0 : Act) (w : World) : List Oper → Nat → Prop
  | [], _ => True
  | o :: r, k => SoftStep P ops tab Q a0 w k o ∧ SoftAll P ops tab Q a0 w r (k + 1)
theorem softAll_spec {P : Program} {ops : Array Oper} {tab : SoftTab} {Q : Exit → Act → World → Prop} {a0 : Act} {w : World} : ∀ (l : List Oper) (k : Nat), SoftAll P ops tab Q a0 w l k → ∀ (j : Nat) (o : Oper), l[j]? = some o → SoftStep P ops tab Q a0 w (k + j) o
  | [], _, _, j, o, h => by simp at h
  | x :: l, k, h, 0, o, ho => by
    obtain rfl : x = o := by simpa using ho
    exact h.1
  | x :: l, k, h, j + 1, o, ho => by
    have := softAll_spec l (k + 1) h.2 j o (by simpa using ho)
    rwa [Nat.add_assoc, Nat.add_comm 1 j] at this
/-- what is told stays told -/
def SoftMono (tab : SoftTab) : Prop := ∀ p ∈ tab, ∀ (v : Value) (W W' : World), p.2 v W → Ext W W' → p.2 v W'
theorem wp_soft {P : Program} {l : List Oper} (tab : SoftTab) {Q : Exit → Act → World → Prop} {a : Act} {w : World} {id : Nat} (hm : P.follows .mixedOrders = true)
    (hlen : tab.length = l.length) (hnd : (tab.map (·.1)).Nodup) (hsz : ∀ d ∈ tab.map (·.1), d < a.tmps.size) (hback : softBack l = true) (hmono : SoftMono tab)
    (hend : ∀ a' W, SoftAt tab a a' w W (Array.replicate l.length true) → Q .normal a' W)
    (hstep : SoftAll P l.toArray tab Q a w l 0) : (Code.region id l.toArray true).wp P Q a w :=
  wp_region_soft tab hm hlen hnd hsz (softBack_spec hback) (fun k d R h v W W' => hmono (d, R) (List.mem_of_getElem? h) v W W') (fun k o h => by have := softAll_spec l 0 hstep k o h; rwa [Nat.zero_add] at this) hend

end Go.Proofs.YthpminlfbjedpaaDoor

namespace Go.Proofs.YthpminlfbjedpaaDoor
open Go.ChangeShapes Go.WideShapes Go.ChangeAt Go.RowKit Go.Sort
set_option linter.unusedVariables false

/-- the slots that are filled hold what is told; the others are as they were; the world has gone on by Rel -/
structure SoftAtR (Rel : World → World → Prop) (tab : SoftTab) (a0 a : Act) (w W : World) (listed : Array Bool) : Prop where
  rel : Rel w W
  defers : a.defers = a0.defers
  size : a.tmps.size = a0.tmps.size
  out : ∀ t, t ∉ tab.map (·.1) → a.tmps[t]? = a0.tmps[t]?
  told : ∀ (k d : Nat) (R : Told), tab[k]? = some (d, R) → listed.getD k false = true → R (a.tmps.getD d undef) W

def SoftStepR (Rel : World → World → Prop) (P : Program) (ops : Array Oper) (tab : SoftTab) (Q : Exit → Act → World → Prop) (a0 : Act) (w : World) (k : Nat) (o : Oper) : Prop :=
  ∀ a W, Rel w W → (∀ t, t ∉ tab.map (·.1) → a.tmps.getD t undef = a0.tmps.getD t undef) → (∀ e ∈ o.after.toList, Region.binds .any e = true → ∀ (d : Nat) (R : Told), tab[e.on]? = some (d, R) → R (a.tmps.getD d undef) W ∧ d < a.tmps.size) →
    ∀ (d : Nat) (R : Told), tab[k]? = some (d, R) → wpOp P ops Q k (fun a' W' => ∃ v, a' = a.put (some d) v ∧ R v W' ∧ Rel W W') a W

def doneTo (n m : Nat) : Array Bool := (List.replicate n true ++ List.replicate (m - n) false).toArray

theorem wpAny_softR {Rel : World → World → Prop} {P : Program} {ops : Array Oper} {n : Nat} {tab : SoftTab} {Q : Exit → Act → World → Prop} {a0 : Act} {w : World} {rest : List Oper}
    (htrans : ∀ a b c, Rel a b → Rel b c → Rel a c)
    (hlen : tab.length = n) (hnd : (tab.map (·.1)).Nodup) (hsz : ∀ d ∈ tab.map (·.1), d < a0.tmps.size)
    (hn : n < ops.size) (hs : Region.sinkB .any ops n = true) (hc : Region.chainB .any ops n = true)
    (hback : ∀ (k : Nat) (o : Oper), k < n → ops[k]? = some o → ∀ e ∈ o.after.toList, Region.binds .any e = true → e.on < k)
    (hmono : ∀ (k d : Nat) (R : Told), tab[k]? = some (d, R) → ∀ (v : Value) (W W' : World), R v W → Rel W W' → R v W')
    (hstep : ∀ (k : Nat) (o : Oper), k < n → ops[k]? = some o → SoftStepR Rel P ops tab Q a0 w k o)
    (hrest : ∀ j, rest[j]? = ops[n + j]?) (hrl : rest.length = ops.size - n) (hseq : Region.seqB .any ops rest.length n (doneTo n ops.size) = true)
    (hend : ∀ a W, SoftAtR Rel tab a0 a w W (doneTo n ops.size) → wpList P ops Q rest a W) :
    ∀ (f : Nat) (listed : Array Bool) (a : Act) (W : World), HeadInv .any ops n listed → (listed.toList.take n).count false = f → SoftAtR Rel tab a0 a w W listed → wpAny P .any ops Q (f + rest.length) listed a W := by
  intro f
  induction f with
  | zero =>
    intro listed a W inv hcnt hI
    have e : listed = doneTo n ops.size := by
      apply Array.ext
      · rw [inv.size]; simp [doneTo]; omega
      · intro i h1 h2
        rcases Nat.lt_or_ge i n with h | h
        · have hm : listed[i] ∈ listed.toList.take n := by
            rw [List.mem_take_iff_getElem]
            exact ⟨i, by simp; omega, by simp⟩
          have hne : listed[i] ≠ false := fun e => by
            rw [e] at hm
            have := List.count_pos_iff.2 hm
            omega
          have : listed[i] = true := by simpa using hne
          rw [this]
          simp [doneTo, h]
        · have := inv.tail i h (by rw [← inv.size]; exact h1)
          have h3 : listed[i] = false := by simpa [Array.getD, h1] using this
          rw [h3]
          simp [doneTo, List.getElem_append, Nat.not_lt.2 h]
    subst e
    rw [Nat.zero_add]
    exact wpAny_of_seq (md := .any) rest n _ a W hrest hseq (hend a W hI)
  | succ f ih =>
    intro listed a W inv hcnt hI
    have hex : ∃ i, i < n ∧ listed.getD i true = false := by
      have hm : false ∈ listed.toList.take n := List.count_pos_iff.1 (by omega)
      rw [List.mem_take_iff_getElem] at hm
      obtain ⟨i, h1, h2⟩ := hm
      have h1' : i < n ∧ i < listed.size := by simp at h1; omega
      refine ⟨i, h1'.1, ?_⟩
      simp [Array.getD, h1'.2]
      simpa using h2
    obtain ⟨i0, hi0, hun0⟩ := hex
    rw [show f + 1 + rest.length = (f + rest.length) + 1 by omega]
    refine ⟨fun hr => ?_, fun i hi => ?_⟩
    · exfalso
      have key : ∀ k, k < n → listed.getD k false = true := by
        intro k
        induction k using Nat.strongRecOn with
        | ind k ihk =>
          intro hk
          rcases hb : listed.getD k false with _ | _
          · exfalso
            have hk' : k < listed.size := by rw [inv.size]; omega
            have hk2 : k < ops.size := by omega
            have hm : k ∈ Region.ready .any ops listed := by
              rw [mem_ready]
              refine ⟨getD_in hk' hb, ops[k], by simp [hk2], fun e he hb' => ?_⟩
              have hlt := hback k ops[k] hk (by simp [hk2]) e (by simpa using he) hb'
              exact ihk e.on hlt (by omega)
            rw [hr] at hm
            cases hm
          · rfl
      have h9 := key i0 hi0
      rw [getD_both hun0] at h9
      cases h9
    · have hin : i < n := by
        rcases Nat.lt_or_ge i n with h | h
        · exact h
        · exact absurd hi (tail_waits hs hc hn inv _ i0 rfl hi0 hun0 i h)
      obtain ⟨h1, o, ho, hdep⟩ := mem_ready.1 hi
      obtain ⟨⟨d, R⟩, htab⟩ : ∃ p, tab[i]? = some p := ⟨tab[i], List.getElem?_eq_getElem (by omega)⟩
      have hdsz : d < a.tmps.size := by rw [hI.size]; exact hsz d (List.mem_map.2 ⟨(d, R), List.mem_of_getElem? htab, rfl⟩)
      have hst := hstep i o hin ho a W hI.rel (fun t ht => by simp only [Array.getD_eq_getD_getElem?, hI.out t ht]) (fun e he hb d' R' ht' =>
        ⟨hI.told e.on d' R' ht' (hdep e (by simpa using he) hb), by rw [hI.size]; exact hsz d' (List.mem_map.2 ⟨(d', R'), List.mem_of_getElem? ht', rfl⟩)⟩) d R htab
      refine wpOp_mono (fun a' W' hh => ?_) hst
      obtain ⟨v, rfl, hR, hx⟩ := hh
      have hil' : i < listed.size := by rw [inv.size]; omega
      refine ih _ _ _ (inv.set hi hin) ?_ ⟨htrans _ _ _ hI.rel hx, hI.defers, by simp only [Act.put, Array.size_setIfInBounds]; exact hI.size, ?_, ?_⟩
      · have e : (listed.toList.take n)[i]? = some false := by
          have h3 : listed[i] = false := by simpa [Array.getD, hil'] using h1
          rw [List.getElem?_take, if_pos hin]
          simp [hil', h3]
        have := count_set (listed.toList.take n) i e
        rw [Array.toList_setIfInBounds, List.take_set]
        omega
      · intro t ht
        have hne : d ≠ t := fun e => ht (e ▸ List.mem_map.2 ⟨(d, R), List.mem_of_getElem? htab, rfl⟩)
        simp only [Act.put]
        rw [Array.getElem?_setIfInBounds_ne hne]
        exact hI.out t ht
      · intro k d2 R2 ht2 hl2
        simp only [Act.put]
        by_cases hki : k = i
        · subst hki
          obtain ⟨rfl, rfl⟩ : d = d2 ∧ R = R2 := by rw [htab] at ht2; injection ht2 with e; injection e with e1 e2; exact ⟨e1, e2⟩
          simp [hdsz]
          exact hR
        · have hne : d ≠ d2 := tab_ne hnd htab ht2 (fun e => hki e.symm)
          have h3 : listed.getD k false = true := by rw [getD_set_ne false (fun e => hki e.symm)] at hl2; exact hl2
          have := hmono k d2 R2 ht2 _ _ _ (hI.told k d2 R2 ht2 h3) hx
          simp only [Array.getD_eq_getD_getElem?, Array.getElem?_setIfInBounds_ne hne]
          simp only [Array.getD_eq_getD_getElem?] at this
          exact this

/-- each operation of the head in its turn -/
def SoftAllR (Rel : World → World → Prop) (P : Program) (ops : Array Oper) (tab : SoftTab) (Q : Exit → Act → World → Prop) (a0 : Act) (w : World) : List Oper → Nat → Prop
  | [], _ => True
  | o :: r, k => SoftStepR Rel P ops tab Q a0 w k o ∧ SoftAllR Rel P ops tab Q a0 w r (k + 1)
theorem softAllR_spec {Rel : World → World → Prop} {P : Program} {ops : Array Oper} {tab : SoftTab} {Q : Exit → Act → World → Prop} {a0 : Act} {w : World} : ∀ (l : List Oper) (k : Nat), SoftAllR Rel P ops tab Q a0 w l k → ∀ (j : Nat) (o : Oper), l[j]? = some o → SoftStepR Rel P ops tab Q a0 w (k + j) o
  | [], _, _, j, o, h => by simp at h
  | x :: l, k, h, 0, o, ho => by
    obtain rfl : x = o := by simpa using ho
    exact h.1
  | x :: l, k, h, j + 1, o, ho => by
    have := softAllR_spec l (k + 1) h.2 j o (by simpa using ho)
    rwa [Nat.add_assoc, Nat.add_comm 1 j] at this
def SoftMonoR (Rel : World → World → Prop) (tab : SoftTab) : Prop := ∀ p ∈ tab, ∀ (v : Value) (W W' : World), p.2 v W → Rel W W' → p.2 v W'
def softBackN (n : Nat) (l : List Oper) : Bool := (List.range n).all fun k => match l[k]? with
  | some o => o.after.toList.all fun e => !Region.binds .any e || decide (e.on < k)
  | none => true
theorem softBackN_spec {n : Nat} {l : List Oper} (h : softBackN n l = true) : ∀ (k : Nat) (o : Oper), k < n → l[k]? = some o → ∀ e ∈ o.after.toList, Region.binds .any e = true → e.on < k := by
  intro k o hk ho e he hb
  have := List.all_eq_true.1 h k (List.mem_range.2 hk)
  simp only [ho] at this
  have := List.all_eq_true.1 this e he
  simpa [hb] using this
/-- what is asked of the region's form -/
def softForm (n : Nat) (l : List Oper) : Bool := decide (n < l.length) && Region.sinkB .any l.toArray n && Region.chainB .any l.toArray n && softBackN n l && Region.seqB .any l.toArray (l.length - n) n (doneTo n l.length)

/-- the region: a head of n operations by what its slots are told to hold, and the tail -/
theorem wp_soft_tail (Rel : World → World → Prop) {P : Program} {l : List Oper} (n : Nat) (tab : SoftTab) {Q : Exit → Act → World → Prop} {a : Act} {w : World} {id : Nat} (hm : P.follows .mixedOrders = true)
    (hform : softForm n l = true) (htrans : ∀ a b c, Rel a b → Rel b c → Rel a c) (hdraw : Rel w { w with drawn := w.drawn + 1 })
    (hlen : tab.length = n) (hnd : (tab.map (·.1)).Nodup) (hsz : ∀ d ∈ tab.map (·.1), d < a.tmps.size) (hmono : SoftMonoR Rel tab)
    (hend : ∀ a' W, SoftAtR Rel tab a a' w W (doneTo n l.length) → wpList P l.toArray Q (l.drop n) a' W)
    (hstep : SoftAllR Rel P l.toArray tab Q a w (l.take n) 0) : (Code.region id l.toArray true).wp P Q a w := by
  unfold softForm at hform
  simp only [Bool.and_eq_true, decide_eq_true_eq] at hform
  obtain ⟨⟨⟨⟨hn, hs⟩, hc⟩, hb⟩, hq⟩ := hform
  have hdl : (l.drop n).length = l.length - n := by simp
  have inv0 : HeadInv .any l.toArray n (Array.replicate l.toArray.size false) :=
    ⟨by simp, fun j oj _ hl => (by rw [getD_replicate_false] at hl; cases hl), fun t _ ht => getD_in (by simpa using ht) (getD_replicate_false _ _)⟩
  refine wp_region_any hm ?_
  have := wpAny_softR (Rel := Rel) (P := P) (ops := l.toArray) (n := n) (tab := tab) (Q := Q) (a0 := a) (w := w) (rest := l.drop n) htrans hlen hnd hsz (by simpa using hn) hs hc
    (fun k o hk ho => softBackN_spec hb k o hk (by simpa using ho)) (fun k d R h v W W' => hmono (d, R) (List.mem_of_getElem? h) v W W')
    (fun k o hk ho => by
      have := softAllR_spec (l.take n) 0 hstep k o (by rw [List.getElem?_take, if_pos hk]; simpa using ho)
      rwa [Nat.zero_add] at this)
    (fun j => by simp [List.getElem?_drop]) (by simp) (by rw [hdl]; simpa using hq) (fun a' W h => hend a' W (by simpa using h)) n (Array.replicate l.toArray.size false) a { w with drawn := w.drawn + 1 } inv0
    (by
      simp
      omega) ⟨hdraw, rfl, rfl, fun _ _ => rfl, fun k d R h1 h2 => by rw [getD_replicate_false] at h2; cases h2⟩
  rw [hdl] at this
  have e : n + (l.length - n) = l.toArray.size := by simp; omega
  rw [e] at this
  exact this

/-- an operation that yields a value -/
theorem softR_val {Rel : World → World → Prop} {P : Program} {ops : Array Oper} {tab : SoftTab} {Q : Exit → Act → World → Prop} {a0 : Act} {w : World} {k : Nat} {o : Oper} (d : Nat) (R : Told) (hk : ops[k]? = some o) (hd : o.dst = some d) (htab : tab[k]? = some (d, R))
    (h : ∀ (a : Act) (W : World), Rel w W → (∀ t, t ∉ tab.map (·.1) → a.tmps.getD t undef = a0.tmps.getD t undef) → (∀ e ∈ o.after.toList, Region.binds .any e = true → ∀ (d : Nat) (R : Told), tab[e.on]? = some (d, R) → R (a.tmps.getD d undef) W ∧ d < a.tmps.size) →
      Region.wanted o (yielded ops a.tmps) = true ∧ ∃ v W', (execOp a.eval o).run P W = .ok (.value v) W' ∧ R v W' ∧ Rel W W') : SoftStepR Rel P ops tab Q a0 w k o := by
  intro a W hx hout hdep d' R' ht
  rw [htab] at ht
  injection ht with ht
  injection ht with e1 e2
  subst e1
  subst e2
  obtain ⟨hw, v, W', hrun, hR, hE⟩ := h a W hx hout hdep
  unfold wpOp
  simp only [hk]
  rw [if_pos hw]
  refine Or.inl ?_
  unfold Oper.wp
  rw [hrun, Oper.upon_value, hd]
  exact ⟨v, rfl, hR, hE⟩
/-- a call -/
theorem softR_call {Rel : World → World → Prop} {P : Program} {ops : Array Oper} {tab : SoftTab} {Q : Exit → Act → World → Prop} {a0 : Act} {w : World} {k : Nat} {o : Oper} (d : Nat) (R : Told) (hk : ops[k]? = some o) (hd : o.dst = some d) (htab : tab[k]? = some (d, R))
    (h : ∀ (a : Act) (W : World), Rel w W → (∀ t, t ∉ tab.map (·.1) → a.tmps.getD t undef = a0.tmps.getD t undef) → (∀ e ∈ o.after.toList, Region.binds .any e = true → ∀ (d : Nat) (R : Told), tab[e.on]? = some (d, R) → R (a.tmps.getD d undef) W ∧ d < a.tmps.size) →
      Region.wanted o (yielded ops a.tmps) = true ∧ ∃ f args, (execOp a.eval o).run P W = .ok (.enter f args) W ∧ Calls P f args W fun e W' => ∃ v, e = .returned v ∧ R v W' ∧ Rel W W') : SoftStepR Rel P ops tab Q a0 w k o := by
  intro a W hx hout hdep d' R' ht
  rw [htab] at ht
  injection ht with ht
  injection ht with e1 e2
  subst e1
  subst e2
  obtain ⟨hw, f, args, hrun, hc⟩ := h a W hx hout hdep
  unfold wpOp
  simp only [hk]
  rw [if_pos hw]
  refine Or.inl ?_
  unfold Oper.wp
  rw [hrun, Oper.upon_enter]
  refine hc.mono ?_
  rintro e W' ⟨v, rfl, hR, hE⟩
  rw [hd]
  exact ⟨v, rfl, hR, hE⟩

theorem Act.put_self (a : Act) (d : Nat) (hd : d < a.tmps.size) : a.put (some d) (a.tmps.getD d undef) = a := by
  cases a with
  | mk t df =>
    simp only [Act.put]
    congr 1
    apply Array.ext
    · simp
    · intro i h1 h2
      simp only at hd
      by_cases h : d = i
      · subst h; simp [hd]
      · rw [Array.getElem_setIfInBounds_ne _ h]
/-- an operation that fills no slot (a store): the slot of its row is one that nobody reads -/
theorem softR_none {Rel : World → World → Prop} {P : Program} {ops : Array Oper} {tab : SoftTab} {Q : Exit → Act → World → Prop} {a0 : Act} {w : World} {k : Nat} {o : Oper} (d : Nat) (hk : ops[k]? = some o) (hd : o.dst = none) (htab : tab[k]? = some (d, fun _ _ => True))
    (h : ∀ (a : Act) (W : World), Rel w W → (∀ t, t ∉ tab.map (·.1) → a.tmps.getD t undef = a0.tmps.getD t undef) → (∀ e ∈ o.after.toList, Region.binds .any e = true → ∀ (d : Nat) (R : Told), tab[e.on]? = some (d, R) → R (a.tmps.getD d undef) W ∧ d < a.tmps.size) →
      Region.wanted o (yielded ops a.tmps) = true ∧ ∃ W', (execOp a.eval o).run P W = .ok .skip W' ∧ Rel W W') : SoftStepR Rel P ops tab Q a0 w k o := by
  intro a W hx hout hdep d' R' ht
  rw [htab] at ht
  injection ht with ht
  injection ht with e1 e2
  subst e1
  subst e2
  obtain ⟨hw, W', hrun, hE⟩ := h a W hx hout hdep
  unfold wpOp
  simp only [hk]
  rw [if_pos hw]
  refine Or.inl ?_
  unfold Oper.wp
  rw [hrun]
  show ∃ v, a.put o.dst undef = a.put (some d) v ∧ _
  rw [hd]
  rcases Nat.lt_or_ge d a.tmps.size with hs | hs
  · exact ⟨_, (Act.put_self a d hs).symm, trivial, hE⟩
  · refine ⟨undef, ?_, trivial, hE⟩
    cases a with
    | mk t df => simp only [Act.put]; congr 1; exact (Array.setIfInBounds_eq_of_size_le hs).symm

/-- slots are filled, one behind the other -/
def putAll : Array Value → List (Nat × Value) → Array Value
  | t, [] => t
  | t, p :: r => putAll (t.setIfInBounds p.1 p.2) r
theorem putAll_of (t' : Array Value) : ∀ (D : List Nat) (t : Array Value), t'.size = t.size → (∀ i, i ∉ D → t'[i]? = t[i]?) → t' = putAll t (D.map fun d => (d, t'.getD d undef))
  | [], t, hs, h => by
    apply Array.ext hs
    intro i h1 h2
    have := h i (by simp)
    rw [Array.getElem?_eq_getElem h1, Array.getElem?_eq_getElem h2] at this
    exact Option.some.inj this
  | d :: D, t, hs, h => by
    refine putAll_of t' D (t.setIfInBounds d (t'.getD d undef)) (by simpa using hs) fun i hi => ?_
    by_cases hd : d = i
    · subst hd
      rcases Nat.lt_or_ge d t.size with g | g
      · have g' : d < t'.size := by omega
        simp [g, g']
      · rw [Array.getElem?_eq_none (by omega), Array.getElem?_eq_none (by simpa using g)]
    · rw [Array.getElem?_setIfInBounds_ne hd]
      exact h i (by simp only [List.mem_cons, not_or]; exact ⟨fun e => hd e.symm, hi⟩)
/-- what is told, of values one behind the other -/
def ToldAll : SoftTab → List Value → World → Prop
  | [], [], _ => True
  | p :: t, v :: vs, W => p.2 v W ∧ ToldAll t vs W
  | _, _, _ => False
theorem toldAll_of {W : World} {f : Nat → Value} : ∀ (tab : SoftTab), (∀ (k d : Nat) (R : Told), tab[k]? = some (d, R) → R (f d) W) → ToldAll tab (tab.map fun p => f p.1) W
  | [], _ => trivial
  | p :: t, h => ⟨h 0 p.1 p.2 rfl, toldAll_of t fun k d R hk => h (k + 1) d R (by simpa using hk)⟩
theorem zip_told (f : Nat → Value) : ∀ (tab : SoftTab), (tab.map (·.1)).zip (tab.map fun p => f p.1) = (tab.map (·.1)).map fun d => (d, f d)
  | [] => rfl
  | p :: t => by simp only [List.map_cons, List.zip_cons_cons, zip_told f t]
/-- the region, the frame behind it written out -/
theorem wp_soft_frame (Rel : World → World → Prop) {P : Program} {l : List Oper} (n : Nat) (tab : SoftTab) {Q : Exit → Act → World → Prop} {a : Act} {w : World} {id : Nat} (hm : P.follows .mixedOrders = true)
    (hform : softForm n l = true) (htrans : ∀ a b c, Rel a b → Rel b c → Rel a c) (hdraw : Rel w { w with drawn := w.drawn + 1 })
    (hlen : tab.length = n) (hnd : (tab.map (·.1)).Nodup) (hsz : ∀ d ∈ tab.map (·.1), d < a.tmps.size) (hmono : SoftMonoR Rel tab)
    (hend : ∀ (W : World) (vs : List Value), ToldAll tab vs W → Rel w W → wpList P l.toArray Q (l.drop n) ⟨putAll a.tmps ((tab.map (·.1)).zip vs), a.defers⟩ W)
    (hstep : SoftAllR Rel P l.toArray tab Q a w (l.take n) 0) : (Code.region id l.toArray true).wp P Q a w := by
  refine wp_soft_tail Rel n tab hm hform htrans hdraw hlen hnd hsz hmono (fun a' W hS => ?_) hstep
  have h1 := hend W (tab.map fun p => a'.tmps.getD p.1 undef) (toldAll_of (f := fun d => a'.tmps.getD d undef) tab fun k d R hk => hS.told k d R hk (by
    have hk' : k < n := by have := (List.getElem?_eq_some_iff.1 hk).1; omega
    simp [doneTo, hk', List.getElem?_append])) hS.rel
  rw [zip_told (fun d => a'.tmps.getD d undef), ← putAll_of a'.tmps _ a.tmps hS.size hS.out, ← hS.defers] at h1
  exact h1

end Go.Proofs.YthpminlfbjedpaaDoor

namespace Go.Proofs.YthpminlfbjedpaaDoor
open Go.ChangeShapes Go.WideShapes Go.ChangeAt Go.RowKit Go.Sort
set_option linter.unusedVariables false

structure SoftAtP (Rel : World → World → Prop) (k0 : Nat) (Pre Post : World → Prop) (tab : SoftTab) (a0 a : Act) (w W : World) (listed : Array Bool) : Prop where
  rel : Rel w W
  phase : (listed.getD k0 false = true → Post W) ∧ (listed.getD k0 false = false → Pre W)
  defers : a.defers = a0.defers
  size : a.tmps.size = a0.tmps.size
  out : ∀ t, t ∉ tab.map (·.1) → a.tmps[t]? = a0.tmps[t]?
  told : ∀ (k d : Nat) (R : Told), tab[k]? = some (d, R) → listed.getD k false = true → R (a.tmps.getD d undef) W

def SoftStepP (Rel : World → World → Prop) (P : Program) (ops : Array Oper) (tab : SoftTab) (Q : Exit → Act → World → Prop) (a0 : Act) (w : World) (k : Nat) (o : Oper) : Prop :=
  ∀ a W, Rel w W → (∀ t, t ∉ tab.map (·.1) → a.tmps.getD t undef = a0.tmps.getD t undef) → (∀ e ∈ o.after.toList, Region.binds .any e = true → ∀ (d : Nat) (R : Told), tab[e.on]? = some (d, R) → R (a.tmps.getD d undef) W ∧ d < a.tmps.size) →
    ∀ (d : Nat) (R : Told), tab[k]? = some (d, R) → wpOp P ops Q k (fun a' W' => ∃ v, a' = a.put (some d) v ∧ R v W' ∧ Ext W W') a W
def SoftStepC (Rel : World → World → Prop) (Pre Post : World → Prop) (P : Program) (ops : Array Oper) (tab : SoftTab) (Q : Exit → Act → World → Prop) (a0 : Act) (w : World) (k : Nat) (o : Oper) : Prop :=
  ∀ a W, Rel w W → Pre W → (∀ t, t ∉ tab.map (·.1) → a.tmps.getD t undef = a0.tmps.getD t undef) → (∀ e ∈ o.after.toList, Region.binds .any e = true → ∀ (d : Nat) (R : Told), tab[e.on]? = some (d, R) → R (a.tmps.getD d undef) W ∧ d < a.tmps.size) →
    ∀ (d : Nat) (R : Told), tab[k]? = some (d, R) → wpOp P ops Q k (fun a' W' => ∃ v, a' = a.put (some d) v ∧ R v W' ∧ Rel W W' ∧ Post W') a W

theorem wpAny_softP {Rel : World → World → Prop} {k0 : Nat} {Pre Post : World → Prop} {P : Program} {ops : Array Oper} {n : Nat} {tab : SoftTab} {Q : Exit → Act → World → Prop} {a0 : Act} {w : World} {rest : List Oper}
    (htrans : ∀ a b c, Rel a b → Rel b c → Rel a c)
    (hlen : tab.length = n) (hnd : (tab.map (·.1)).Nodup) (hsz : ∀ d ∈ tab.map (·.1), d < a0.tmps.size)
    (hn : n < ops.size) (hs : Region.sinkB .any ops n = true) (hc : Region.chainB .any ops n = true)
    (hback : ∀ (k : Nat) (o : Oper), k < n → ops[k]? = some o → ∀ e ∈ o.after.toList, Region.binds .any e = true → e.on < k)
    (hmono : ∀ (k d : Nat) (R : Told), tab[k]? = some (d, R) → ∀ (v : Value) (W W' : World), R v W → Rel W W' → R v W')
    (hsub : ∀ a b, Ext a b → Rel a b) (hpre : ∀ a b, Ext a b → Pre a → Pre b) (hpost : ∀ a b, Ext a b → Post a → Post b) (hk0 : k0 < n)
    (hstep : ∀ (k : Nat) (o : Oper), k < n → k ≠ k0 → ops[k]? = some o → SoftStepP Rel P ops tab Q a0 w k o) (hcall : ∀ o, ops[k0]? = some o → SoftStepC Rel Pre Post P ops tab Q a0 w k0 o)
    (hrest : ∀ j, rest[j]? = ops[n + j]?) (hrl : rest.length = ops.size - n) (hseq : Region.seqB .any ops rest.length n (doneTo n ops.size) = true)
    (hend : ∀ a W, SoftAtP Rel k0 Pre Post tab a0 a w W (doneTo n ops.size) → wpList P ops Q rest a W) :
    ∀ (f : Nat) (listed : Array Bool) (a : Act) (W : World), HeadInv .any ops n listed → (listed.toList.take n).count false = f → SoftAtP Rel k0 Pre Post tab a0 a w W listed → wpAny P .any ops Q (f + rest.length) listed a W := by
  intro f
  induction f with
  | zero =>
    intro listed a W inv hcnt hI
    have e : listed = doneTo n ops.size := by
      apply Array.ext
      · rw [inv.size]; simp [doneTo]; omega
      · intro i h1 h2
        rcases Nat.lt_or_ge i n with h | h
        · have hm : listed[i] ∈ listed.toList.take n := by
            rw [List.mem_take_iff_getElem]
            exact ⟨i, by simp; omega, by simp⟩
          have hne : listed[i] ≠ false := fun e => by
            rw [e] at hm
            have := List.count_pos_iff.2 hm
            omega
          have : listed[i] = true := by simpa using hne
          rw [this]
          simp [doneTo, h]
        · have := inv.tail i h (by rw [← inv.size]; exact h1)
          have h3 : listed[i] = false := by simpa [Array.getD, h1] using this
          rw [h3]
          simp [doneTo, List.getElem_append, Nat.not_lt.2 h]
    subst e
    rw [Nat.zero_add]
    exact wpAny_of_seq (md := .any) rest n _ a W hrest hseq (hend a W hI)
  | succ f ih =>
    intro listed a W inv hcnt hI
    have hex : ∃ i, i < n ∧ listed.getD i true = false := by
      have hm : false ∈ listed.toList.take n := List.count_pos_iff.1 (by omega)
      rw [List.mem_take_iff_getElem] at hm
      obtain ⟨i, h1, h2⟩ := hm
      have h1' : i < n ∧ i < listed.size := by simp at h1; omega
      refine ⟨i, h1'.1, ?_⟩
      simp [Array.getD, h1'.2]
      simpa using h2
    obtain ⟨i0, hi0, hun0⟩ := hex
    rw [show f + 1 + rest.length = (f + rest.length) + 1 by omega]
    refine ⟨fun hr => ?_, fun i hi => ?_⟩
    · exfalso
      have key : ∀ k, k < n → listed.getD k false = true := by
        intro k
        induction k using Nat.strongRecOn with
        | ind k ihk =>
          intro hk
          rcases hb : listed.getD k false with _ | _
          · exfalso
            have hk' : k < listed.size := by rw [inv.size]; omega
            have hk2 : k < ops.size := by omega
            have hm : k ∈ Region.ready .any ops listed := by
              rw [mem_ready]
              refine ⟨getD_in hk' hb, ops[k], by simp [hk2], fun e he hb' => ?_⟩
              have hlt := hback k ops[k] hk (by simp [hk2]) e (by simpa using he) hb'
              exact ihk e.on hlt (by omega)
            rw [hr] at hm
            cases hm
          · rfl
      have h9 := key i0 hi0
      rw [getD_both hun0] at h9
      cases h9
    · have hin : i < n := by
        rcases Nat.lt_or_ge i n with h | h
        · exact h
        · exact absurd hi (tail_waits hs hc hn inv _ i0 rfl hi0 hun0 i h)
      obtain ⟨h1, o, ho, hdep⟩ := mem_ready.1 hi
      obtain ⟨⟨d, R⟩, htab⟩ : ∃ p, tab[i]? = some p := ⟨tab[i], List.getElem?_eq_getElem (by omega)⟩
      have hdsz : d < a.tmps.size := by rw [hI.size]; exact hsz d (List.mem_map.2 ⟨(d, R), List.mem_of_getElem? htab, rfl⟩)
      have hdeps : ∀ e ∈ o.after.toList, Region.binds .any e = true → ∀ (d' : Nat) (R' : Told), tab[e.on]? = some (d', R') → R' (a.tmps.getD d' undef) W ∧ d' < a.tmps.size := fun e he hb d' R' ht' =>
        ⟨hI.told e.on d' R' ht' (hdep e (by simpa using he) hb), by rw [hI.size]; exact hsz d' (List.mem_map.2 ⟨(d', R'), List.mem_of_getElem? ht', rfl⟩)⟩
      have hst : wpOp P ops Q i (fun a' W' => ∃ v, a' = a.put (some d) v ∧ R v W' ∧ Rel W W' ∧ ((listed.setIfInBounds i true).getD k0 false = true → Post W') ∧ ((listed.setIfInBounds i true).getD k0 false = false → Pre W')) a W := by
        by_cases hik : i = k0
        · subst hik
          have hf : listed.getD i false = false := getD_both h1
          refine wpOp_mono (fun a' W' hh => ?_) (hcall o ho a W hI.rel (hI.phase.2 hf) (fun t ht => by simp only [Array.getD_eq_getD_getElem?, hI.out t ht]) hdeps d R htab)
          obtain ⟨v, e1, e2, e3, e4⟩ := hh
          have hil' : i < listed.size := by rw [inv.size]; omega
          exact ⟨v, e1, e2, e3, fun _ => e4, fun hh => by simp [hil'] at hh⟩
        · refine wpOp_mono (fun a' W' hh => ?_) (hstep i o hin hik ho a W hI.rel (fun t ht => by simp only [Array.getD_eq_getD_getElem?, hI.out t ht]) hdeps d R htab)
          obtain ⟨v, e1, e2, e3⟩ := hh
          refine ⟨v, e1, e2, hsub _ _ e3, fun hh => hpost _ _ e3 (hI.phase.1 ?_), fun hh => hpre _ _ e3 (hI.phase.2 ?_)⟩
          · rw [getD_set_ne false hik] at hh; exact hh
          · rw [getD_set_ne false hik] at hh; exact hh
      refine wpOp_mono (fun a' W' hh => ?_) hst
      obtain ⟨v, rfl, hR, hx, hph⟩ := hh
      have hil' : i < listed.size := by rw [inv.size]; omega
      refine ih _ _ _ (inv.set hi hin) ?_ ⟨htrans _ _ _ hI.rel hx, hph, hI.defers, by simp only [Act.put, Array.size_setIfInBounds]; exact hI.size, ?_, ?_⟩
      · have e : (listed.toList.take n)[i]? = some false := by
          have h3 : listed[i] = false := by simpa [Array.getD, hil'] using h1
          rw [List.getElem?_take, if_pos hin]
          simp [hil', h3]
        have := count_set (listed.toList.take n) i e
        rw [Array.toList_setIfInBounds, List.take_set]
        omega
      · intro t ht
        have hne : d ≠ t := fun e => ht (e ▸ List.mem_map.2 ⟨(d, R), List.mem_of_getElem? htab, rfl⟩)
        simp only [Act.put]
        rw [Array.getElem?_setIfInBounds_ne hne]
        exact hI.out t ht
      · intro k d2 R2 ht2 hl2
        simp only [Act.put]
        by_cases hki : k = i
        · subst hki
          obtain ⟨rfl, rfl⟩ : d = d2 ∧ R = R2 := by rw [htab] at ht2; injection ht2 with e; injection e with e1 e2; exact ⟨e1, e2⟩
          simp [hdsz]
          exact hR
        · have hne : d ≠ d2 := tab_ne hnd htab ht2 (fun e => hki e.symm)
          have h3 : listed.getD k false = true := by rw [getD_set_ne false (fun e => hki e.symm)] at hl2; exact hl2
          have := hmono k d2 R2 ht2 _ _ _ (hI.told k d2 R2 ht2 h3) hx
          simp only [Array.getD_eq_getD_getElem?, Array.getElem?_setIfInBounds_ne hne]
          simp only [Array.getD_eq_getD_getElem?] at this
          exact this

/-- each operation of the head in its turn; the one that is k0 is asked otherwise -/
def SoftAllP (Rel : World → World → Prop) (k0 : Nat) (Pre Post : World → Prop) (P : Program) (ops : Array Oper) (tab : SoftTab) (Q : Exit → Act → World → Prop) (a0 : Act) (w : World) : List Oper → Nat → Prop
  | [], _ => True
  | o :: r, k => (if k = k0 then SoftStepC Rel Pre Post P ops tab Q a0 w k o else SoftStepP Rel P ops tab Q a0 w k o) ∧ SoftAllP Rel k0 Pre Post P ops tab Q a0 w r (k + 1)
theorem softAllP_spec {Rel : World → World → Prop} {k0 : Nat} {Pre Post : World → Prop} {P : Program} {ops : Array Oper} {tab : SoftTab} {Q : Exit → Act → World → Prop} {a0 : Act} {w : World} : ∀ (l : List Oper) (k : Nat), SoftAllP Rel k0 Pre Post P ops tab Q a0 w l k → ∀ (j : Nat) (o : Oper), l[j]? = some o →
    if k + j = k0 then SoftStepC Rel Pre Post P ops tab Q a0 w (k + j) o else SoftStepP Rel P ops tab Q a0 w (k + j) o
  | [], _, _, j, o, h => by simp at h
  | x :: l, k, h, 0, o, ho => by
    obtain rfl : x = o := by simpa using ho
    exact h.1
  | x :: l, k, h, j + 1, o, ho => by
    have := softAllP_spec l (k + 1) h.2 j o (by simpa using ho)
    rwa [Nat.add_assoc, Nat.add_comm 1 j] at this
/-- the region: a head of n operations by what its slots are told to hold, and the tail -/
theorem wp_soft_tailP (Rel : World → World → Prop) (k0 : Nat) (Pre Post : World → Prop) {P : Program} {l : List Oper} (n : Nat) (tab : SoftTab) {Q : Exit → Act → World → Prop} {a : Act} {w : World} {id : Nat} (hm : P.follows .mixedOrders = true)
    (hform : softForm n l = true) (htrans : ∀ a b c, Rel a b → Rel b c → Rel a c) (hsub : ∀ a b, Ext a b → Rel a b) (hpre : ∀ a b, Ext a b → Pre a → Pre b) (hpost : ∀ a b, Ext a b → Post a → Post b) (hk0 : k0 < n) (hw : Pre w)
    (hlen : tab.length = n) (hnd : (tab.map (·.1)).Nodup) (hsz : ∀ d ∈ tab.map (·.1), d < a.tmps.size) (hmono : SoftMonoR Rel tab)
    (hend : ∀ a' W, SoftAtP Rel k0 Pre Post tab a a' w W (doneTo n l.length) → wpList P l.toArray Q (l.drop n) a' W)
    (hstep : SoftAllP Rel k0 Pre Post P l.toArray tab Q a w (l.take n) 0) : (Code.region id l.toArray true).wp P Q a w := by
  unfold softForm at hform
  simp only [Bool.and_eq_true, decide_eq_true_eq] at hform
  obtain ⟨⟨⟨⟨hn, hs⟩, hc⟩, hb⟩, hq⟩ := hform
  have hdl : (l.drop n).length = l.length - n := by simp
  have inv0 : HeadInv .any l.toArray n (Array.replicate l.toArray.size false) :=
    ⟨by simp, fun j oj _ hl => (by rw [getD_replicate_false] at hl; cases hl), fun t _ ht => getD_in (by simpa using ht) (getD_replicate_false _ _)⟩
  refine wp_region_any hm ?_
  have := wpAny_softP (Rel := Rel) (k0 := k0) (Pre := Pre) (Post := Post) (P := P) (ops := l.toArray) (n := n) (tab := tab) (Q := Q) (a0 := a) (w := w) (rest := l.drop n) htrans hlen hnd hsz (by simpa using hn) hs hc
    (fun k o hk ho => softBackN_spec hb k o hk (by simpa using ho)) (fun k d R h v W W' => hmono (d, R) (List.mem_of_getElem? h) v W W')
    hsub hpre hpost hk0
    (fun k o hk hne ho => by
      have := softAllP_spec (l.take n) 0 hstep k o (by rw [List.getElem?_take, if_pos hk]; simpa using ho)
      rw [Nat.zero_add, if_neg hne] at this
      exact this)
    (fun o ho => by
      have := softAllP_spec (l.take n) 0 hstep k0 o (by rw [List.getElem?_take, if_pos hk0]; simpa using ho)
      rw [Nat.zero_add, if_pos rfl] at this
      exact this)
    (fun j => by simp [List.getElem?_drop]) (by simp) (by rw [hdl]; simpa using hq) (fun a' W h => hend a' W (by simpa using h)) n (Array.replicate l.toArray.size false) a { w with drawn := w.drawn + 1 } inv0
    (by
      simp
      omega) ⟨hsub _ _ ((Ext.refl w).drew), ⟨fun hh => (by rw [getD_replicate_false] at hh; cases hh), fun _ => hpre _ _ ((Ext.refl w).drew) hw⟩, rfl, rfl, fun _ _ => rfl, fun k d R h1 h2 => by rw [getD_replicate_false] at h2; cases h2⟩
  rw [hdl] at this
  have e : n + (l.length - n) = l.toArray.size := by simp; omega
  rw [e] at this
  exact this

/-- an operation that yields a value -/
theorem softP_val {Rel : World → World → Prop} {P : Program} {ops : Array Oper} {tab : SoftTab} {Q : Exit → Act → World → Prop} {a0 : Act} {w : World} {k : Nat} {o : Oper} (d : Nat) (R : Told) (hk : ops[k]? = some o) (hd : o.dst = some d) (htab : tab[k]? = some (d, R))
    (h : ∀ (a : Act) (W : World), Rel w W → (∀ t, t ∉ tab.map (·.1) → a.tmps.getD t undef = a0.tmps.getD t undef) → (∀ e ∈ o.after.toList, Region.binds .any e = true → ∀ (d : Nat) (R : Told), tab[e.on]? = some (d, R) → R (a.tmps.getD d undef) W ∧ d < a.tmps.size) →
      Region.wanted o (yielded ops a.tmps) = true ∧ ∃ v W', (execOp a.eval o).run P W = .ok (.value v) W' ∧ R v W' ∧ Ext W W') : SoftStepP Rel P ops tab Q a0 w k o := by
  intro a W hx hout hdep d' R' ht
  rw [htab] at ht
  injection ht with ht
  injection ht with e1 e2
  subst e1
  subst e2
  obtain ⟨hw, v, W', hrun, hR, hE⟩ := h a W hx hout hdep
  unfold wpOp
  simp only [hk]
  rw [if_pos hw]
  refine Or.inl ?_
  unfold Oper.wp
  rw [hrun, Oper.upon_value, hd]
  exact ⟨v, rfl, hR, hE⟩
/-- a call -/
theorem softP_call {Rel : World → World → Prop} {P : Program} {ops : Array Oper} {tab : SoftTab} {Q : Exit → Act → World → Prop} {a0 : Act} {w : World} {k : Nat} {o : Oper} (d : Nat) (R : Told) (hk : ops[k]? = some o) (hd : o.dst = some d) (htab : tab[k]? = some (d, R))
    (h : ∀ (a : Act) (W : World), Rel w W → (∀ t, t ∉ tab.map (·.1) → a.tmps.getD t undef = a0.tmps.getD t undef) → (∀ e ∈ o.after.toList, Region.binds .any e = true → ∀ (d : Nat) (R : Told), tab[e.on]? = some (d, R) → R (a.tmps.getD d undef) W ∧ d < a.tmps.size) →
      Region.wanted o (yielded ops a.tmps) = true ∧ ∃ f args, (execOp a.eval o).run P W = .ok (.enter f args) W ∧ Calls P f args W fun e W' => ∃ v, e = .returned v ∧ R v W' ∧ Ext W W') : SoftStepP Rel P ops tab Q a0 w k o := by
  intro a W hx hout hdep d' R' ht
  rw [htab] at ht
  injection ht with ht
  injection ht with e1 e2
  subst e1
  subst e2
  obtain ⟨hw, f, args, hrun, hc⟩ := h a W hx hout hdep
  unfold wpOp
  simp only [hk]
  rw [if_pos hw]
  refine Or.inl ?_
  unfold Oper.wp
  rw [hrun, Oper.upon_enter]
  refine hc.mono ?_
  rintro e W' ⟨v, rfl, hR, hE⟩
  rw [hd]
  exact ⟨v, rfl, hR, hE⟩

/-- the call that turns more than it makes -/
theorem softC_call {Rel : World → World → Prop} {Pre Post : World → Prop} {P : Program} {ops : Array Oper} {tab : SoftTab} {Q : Exit → Act → World → Prop} {a0 : Act} {w : World} {k : Nat} {o : Oper} (d : Nat) (R : Told) (hk : ops[k]? = some o) (hd : o.dst = some d) (htab : tab[k]? = some (d, R))
    (h : ∀ (a : Act) (W : World), Rel w W → Pre W → (∀ t, t ∉ tab.map (·.1) → a.tmps.getD t undef = a0.tmps.getD t undef) → (∀ e ∈ o.after.toList, Region.binds .any e = true → ∀ (d : Nat) (R : Told), tab[e.on]? = some (d, R) → R (a.tmps.getD d undef) W ∧ d < a.tmps.size) →
      Region.wanted o (yielded ops a.tmps) = true ∧ ∃ f args, (execOp a.eval o).run P W = .ok (.enter f args) W ∧ Calls P f args W fun e W' => ∃ v, e = .returned v ∧ R v W' ∧ Rel W W' ∧ Post W') : SoftStepC Rel Pre Post P ops tab Q a0 w k o := by
  intro a W hx hpre hout hdep d' R' ht
  rw [htab] at ht
  injection ht with ht
  injection ht with e1 e2
  subst e1
  subst e2
  obtain ⟨hw, f, args, hrun, hc⟩ := h a W hx hpre hout hdep
  unfold wpOp
  simp only [hk]
  rw [if_pos hw]
  refine Or.inl ?_
  unfold Oper.wp
  rw [hrun, Oper.upon_enter]
  refine hc.mono ?_
  rintro e W' ⟨v, rfl, hR, hE, hP⟩
  rw [hd]
  exact ⟨v, rfl, hR, hE, hP⟩

/-- the region, the frame behind it written out -/
theorem wp_soft_frameP (Rel : World → World → Prop) (k0 : Nat) (Pre Post : World → Prop) {P : Program} {l : List Oper} (n : Nat) (tab : SoftTab) {Q : Exit → Act → World → Prop} {a : Act} {w : World} {id : Nat} (hm : P.follows .mixedOrders = true)
    (hform : softForm n l = true) (htrans : ∀ a b c, Rel a b → Rel b c → Rel a c) (hsub : ∀ a b, Ext a b → Rel a b) (hpre : ∀ a b, Ext a b → Pre a → Pre b) (hpost : ∀ a b, Ext a b → Post a → Post b) (hk0 : k0 < n) (hw : Pre w)
    (hlen : tab.length = n) (hnd : (tab.map (·.1)).Nodup) (hsz : ∀ d ∈ tab.map (·.1), d < a.tmps.size) (hmono : SoftMonoR Rel tab)
    (hend : ∀ (W : World) (vs : List Value), ToldAll tab vs W → Rel w W → Post W → wpList P l.toArray Q (l.drop n) ⟨putAll a.tmps ((tab.map (·.1)).zip vs), a.defers⟩ W)
    (hstep : SoftAllP Rel k0 Pre Post P l.toArray tab Q a w (l.take n) 0) : (Code.region id l.toArray true).wp P Q a w := by
  refine wp_soft_tailP Rel k0 Pre Post n tab hm hform htrans hsub hpre hpost hk0 hw hlen hnd hsz hmono (fun a' W hS => ?_) hstep
  have h1 := hend W (tab.map fun p => a'.tmps.getD p.1 undef) (toldAll_of (f := fun d => a'.tmps.getD d undef) tab fun k d R hk => hS.told k d R hk (by
    have hk' : k < n := by have := (List.getElem?_eq_some_iff.1 hk).1; omega
    simp [doneTo, hk', List.getElem?_append])) hS.rel (hS.phase.1 (by simp [doneTo, hk0, List.getElem?_append]))
  rw [zip_told (fun d => a'.tmps.getD d undef), ← putAll_of a'.tmps _ a.tmps hS.size hS.out, ← hS.defers] at h1
  exact h1

end Go.Proofs.YthpminlfbjedpaaDoor
