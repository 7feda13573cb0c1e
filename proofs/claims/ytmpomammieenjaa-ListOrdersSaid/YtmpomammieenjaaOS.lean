/-
  Several texts of this seat in one file, each in the namespace again; no claim stands here.
-/
import Derived.Test.YtmpomammieenjaaRows
import Derived.WalkKit
import Derived.ProofKit
import Derived.OpenShut
import Derived.Lib.SmallJoins
import Derived.Lib.Hide
import Derived.Lib.QuietBelow
import Derived.BigQuiet
import Derived.LaidEql
import Derived.Deep.RegionHeld
import Derived.Maps.AppendAt
import Derived.Deep.AppendLies
import Derived.OwnWalk
import Derived.Laws.OwnMore
import Derived.Laws.MakeOwn
import Derived.Laws.IdiomStrings
import Derived.Lib.AppendStr
import Derived.Lib.BufferRead
import Derived.Deep.QuietTactic
import Derived.Deep.LoopGhost
import Derived.RegionTactic
import Derived.IntWalk
import Derived.Deep.SlicePairs
import Derived.Lay
import Derived.ChangeMaps5
import Derived.StillTailTactics
import Derived.Test.YtmpomammieenjaaWMath
import Derived.Test.YtmpomammieenjaaNMath
import Derived.Test.YtmpomammieenjaaXMath
import Derived.Test.YtmpomammieenjaaYMath
import Derived.Test.YtmpomammieenjaaHMath
namespace Go.Proofs.Ytmpomammieenjaa
open Go.ChangeShapes Go.WideShapes Go.ChangeAt Go.RowKit Go.Sort
set_option linter.unusedVariables false
set_option linter.unusedSimpArgs false

def Ext (w w' : World) : Prop := Below w.heap.size w w'

theorem Ext.refl (w : World) : Ext w w := Below.refl _ _
theorem Ext.size {a b : World} (h : Ext a b) : a.heap.size ≤ b.heap.size := RowKit.Below.size h
theorem Ext.trans {a b c : World} (h : Ext a b) (k : Ext b c) : Ext a c := Below.trans h (Below.mono k h.size)
theorem Ext.alloc {a w : World} (h : Ext a w) (o : Obj) : Ext a (w.alloc o) := Below.alloc h h.size o
theorem Ext.drew {a w : World} (h : Ext a w) : Ext a w.drew := Below.drew h
theorem Ext.drewN {a w : World} (h : Ext a w) (n : Nat) : Ext a (w.drewN n) := ⟨RowKit.Below.os (w' := w) h, RowKit.Below.tape (w' := w) h, RowKit.Below.output (w' := w) h, RowKit.Below.size (w' := w) h, RowKit.Below.block (w' := w) h⟩
theorem Ext.setCell {a w : World} (h : Ext a w) {p : Addr} (hp : a.heap.size ≤ p.block) (u : Value) : Ext a (w.setCell p u) := Below.setCell h hp u
theorem Ext.cells {W w1 : World} (hb : Ext W w1) : (∀ b o, b < W.heap.size → w1.cell? ⟨b, o, none⟩ = W.cell? ⟨b, o, none⟩) ∧ (∀ b o, b < W.heap.size → w1.frozen? ⟨b, o, none⟩ = W.frozen? ⟨b, o, none⟩) :=
  ⟨fun b o h => RowKit.Below.cell (p := ⟨b, o, none⟩) hb h, fun b o h => RowKit.Below.frozen (p := ⟨b, o, none⟩) hb h⟩

theorem Ext.keep {W w1 : World} (h : Ext W w1) {p : Addr} {v : Value} (hc : W.cell? p = some v) : w1.cell? p = some v := by
  rw [RowKit.Below.cell h (World.block_lt_of_cell? W p hc)]; exact hc
theorem Ext.thaw {W w1 : World} (h : Ext W w1) {p : Addr} {v : Value} (hc : W.cell? p = some v) (hf : W.frozen? p = false) : w1.frozen? p = false := by
  rw [RowKit.Below.frozen h (World.block_lt_of_cell? W p hc)]; exact hf
theorem Ext.lt {W w1 : World} (h : Ext W w1) {n : Nat} (hn : n < W.heap.size) : n < w1.heap.size := Nat.lt_of_lt_of_le hn h.size

theorem Calls.in_regrown {P : Program} {f : FuncId} {args : Array Value} {w : World} {d : Nat} {os : Array Obj} {v : Value}
    (h : Calls P f args (grow (redrawn w d) os) fun e w' => e = .returned v ∧ Ext (grow (redrawn w d) os) w') : Calls P f args (grow (redrawn w d) os) fun e w'' => e = .returned v ∧ ∃ p : Regrown, w'' = grow (redrawn w p.d) p.os := Calls.regrown_of h
theorem Calls.same_regrown {P : Program} {f : FuncId} {args : Array Value} {w : World} {d : Nat} {os : Array Obj} {v : Value}
    (h : Calls P f args (grow (redrawn w d) os) fun e w' => e = .returned v ∧ grow (redrawn w d) os = w') : Calls P f args (grow (redrawn w d) os) fun e w'' => e = .returned v ∧ ∃ p : Regrown, w'' = grow (redrawn w p.d) p.os :=
  Calls.in_regrown (h.mono fun e w' hh => ⟨hh.1, by rw [← hh.2]; exact Ext.refl _⟩)
theorem Ext.regrown (w : World) (d : Nat) (os : Array Obj) : Ext w (grow (redrawn w d) os) := below_regrown w d os

abbrev Vu (n : Int) : Value := .int .u32 n
abbrev Vi (n : Int) : Value := .int .i64 n
abbrev idv (a b : Int) : Value := .agg #[.int .u32 a, .int .u32 b]
theorem ret_i64 {a b : Int} (h : a = b) : Ending.returned (.int .i64 a) = .returned (.int .i64 b) := by rw [h]
theorem ret_bool {a b : Bool} (h : a = b) : Ending.returned (.bool a) = .returned (.bool b) := by rw [h]
theorem reads_on {H : Type} {enc : TypeId × Value → H} {P : Program} (hl : laidOutB P = true) {W W' : World} (hx : Ext W W') : ∀ (ts : List TypeId) (vs : List Value) (ds : List (DataW H)) (ps : List MemPlace),
    (∀ t ∈ ts, P.readableRec t = true ∧ t < P.types.size) → DataW.TrodAll enc P W 0 (fun _ => true) true ts vs ds ps → (∀ x ∈ ps, x.block < W.heap.size) → DataW.TrodAll enc P W' 0 (fun b => decide (b < W.heap.size)) true ts vs ds ps := by
  intro ts
  induction ts with
  | nil => intro vs ds ps _ h _; cases vs <;> cases ds <;> first | exact h | exact h.elim
  | cons t ts ih =>
    intro vs ds ps ht h hp
    cases vs with
    | nil => exact h.elim
    | cons v vs =>
      cases ds with
      | nil => exact h.elim
      | cons d ds =>
        obtain ⟨p, q, h1, h2, rfl⟩ := h
        have t1 := ht t (List.mem_cons_self ..)
        exact ⟨p, q, RowKit.Below.trod hl t1.1 t1.2 h1 hx (fun x hx' => hp x (List.mem_append_left _ hx')), ih vs ds q (fun t' ht' => ht t' (List.mem_cons_of_mem _ ht')) h2 (fun x hx' => hp x (List.mem_append_right _ hx')), rfl⟩

theorem law_post {H : Type} {enc : TypeId × Value → H} {P : Program} {f : Func} {s : ChangeSpec} {W W' : World} {args : Array Value} {ds gs : List (DataW H)} {before : List MemPlace} {tb : TypeId}
    (hW : DataW.Whole enc P f.params.toList s.vars false W args.toList ds gs before) (hl : laidOutB P = true) (hts : ∀ t ∈ f.params.toList, P.readableRec t = true ∧ t < P.types.size)
    (hvars : s.vars = []) (hr : (s.fn H (ds ++ gs)).results = [.lit (.bool true)]) (ha : (s.fn H (ds ++ gs)).args = ds) (hv : (s.fn H (ds ++ gs)).vars = []) (hx : Ext W W')
    (hres : f.resultTypes = #[tb]) (hb : P.underlying tb = some .bool) : s.post enc P f false true false false W args (.bool true) W' := by
  have hlt : ∀ p ∈ before, p.block < W.heap.size := fun p hp => hW.lt p hp
  have hW' := hW
  obtain ⟨p, q, hA, hV, hpq, _, _⟩ := hW
  have hq : q = [] := by
    rw [hvars] at hV
    cases gs with
    | nil => exact hV
    | cons g gs => exact hV.elim
  subst hq
  rw [List.append_nil] at hpq
  subst hpq
  refine ⟨ds, gs, before, [], before, [], hW', ?_, ?_, ?_, ?_, fun h => by cases h⟩
  · rw [hr, hres]; exact trodAll_mk1 (shut_bool hb true)
  · rw [ha]; exact reads_on hl hx _ _ _ _ hts hA hlt
  · rw [hv, hvars]; rfl
  · exact World.keptBut_mono (fun p hp => ⟨hp, .inr (.inl hp)⟩) (RowKit.Below.frame hx (· ∈ before))

theorem own : ownKnob Try.prog.godebug = Option.none := by kernel_rfl
theorem laid : laidOutB Try.prog = true := by kernel_rfl

theorem bounds_u32 {a : Int} (h : (Lit.int .u32 a).wf = true) : 0 ≤ a ∧ a ≤ 4294967295 := by
  simpa [Lit.wf, IntKind.min, IntKind.max, IntKind.signed, IntKind.bits] using h
end Go.Proofs.Ytmpomammieenjaa

namespace Go.Proofs.Ytmpomammieenjaa
open Go.ChangeShapes Go.WideShapes Go.ChangeAt Go.RowKit Go.Sort
set_option linter.unusedVariables false
set_option linter.unusedSimpArgs false

theorem add_at (b o n : Nat) : (⟨b, o, none⟩ : Addr).add n = ⟨b, o + n, none⟩ := by unfold Addr.add; split <;> simp_all

def Row (w : World) (A : Option Addr) (xs : List Value) : Prop :=
  0 < xs.length → ∃ b o, A = some ⟨b, o, none⟩ ∧ ∀ (j : Nat) (u : Value), xs[j]? = some u → w.cell? ⟨b, o + j, none⟩ = some u

theorem Row.nil (w : World) (A : Option Addr) : Row w A [] := fun h => absurd h (by simp)
theorem Row.ext {w w' : World} {A : Option Addr} {xs : List Value} (h : Row w A xs) (hx : Ext w w') : Row w' A xs := fun h0 => by
  obtain ⟨b, o, e, hc⟩ := h h0
  exact ⟨b, o, e, fun j u hu => hx.keep (hc j u hu)⟩
theorem Row.take {w : World} {A : Option Addr} {xs : List Value} (h : Row w A xs) (k : Nat) : Row w A (xs.take k) := fun h0 => by
  obtain ⟨b, o, e, hc⟩ := h (by simp at h0; omega)
  refine ⟨b, o, e, fun j u hu => hc j u ?_⟩
  rw [List.getElem?_take] at hu
  split at hu
  · exact hu
  · cases hu
theorem Row.drop {w : World} {b o : Nat} {xs : List Value} (h : Row w (some ⟨b, o, none⟩) xs) (k : Nat) : Row w (some ⟨b, o + k, none⟩) (xs.drop k) := fun h0 => by
  obtain ⟨b', o', e, hc⟩ := h (by simp at h0; omega)
  injection e with e
  injection e with e1 e2 e3
  subst e1
  subst e2
  refine ⟨_, _, rfl, fun j u hu => ?_⟩
  rw [List.getElem?_drop] at hu
  rw [Nat.add_assoc]
  exact hc _ u hu
theorem Row.own {w : World} {base : Nat} {e : TypeId} {size : Nat} {A : Option Addr} {n c : Nat} {xs : List Value} (h : w.ownsRow base e size (.slice A n c) n xs) : Row w A xs := fun h0 => by
  have hn : 0 < n := by
    rcases Nat.eq_zero_or_pos n with h1 | h1
    · subst h1; have := h.1; omega
    · exact h1
  obtain ⟨g, cap, hv, _, hlt⟩ := h.form hn
  have hA : A = some ⟨g, 0, none⟩ := by injection hv
  subst hA
  refine ⟨g, 0, rfl, fun j u hu => ?_⟩
  rw [← add_at]
  exact h.cells (g := g) rfl j u hu

def flat {α : Type} (enc : α → List Value) (l : List α) : List Value := l.flatMap enc
theorem flat_cons {α : Type} (enc : α → List Value) (a : α) (l : List α) : flat enc (a :: l) = enc a ++ flat enc l := by simp [flat]
theorem flat_append {α : Type} (enc : α → List Value) (l m : List α) : flat enc (l ++ m) = flat enc l ++ flat enc m := by simp [flat]
theorem flat_one {α : Type} (enc : α → List Value) (a : α) : flat enc [a] = enc a := by simp [flat]
section
variable {α : Type} {enc : α → List Value} {s : Nat}
theorem flat_len (hs : ∀ a, (enc a).length = s) : ∀ l : List α, (flat enc l).length = l.length * s
  | [] => by simp [flat]
  | a :: l => by rw [flat_cons, List.length_append, hs, flat_len hs l, List.length_cons, Nat.succ_mul, Nat.add_comm]
theorem flat_at (hs : ∀ a, (enc a).length = s) : ∀ {l : List α} {k : Nat} {a : α} {j : Nat}, l[k]? = some a → j < s → (flat enc l)[k * s + j]? = (enc a)[j]?
  | [], k, a, j, h, _ => by simp at h
  | x :: l, 0, a, j, h, hj => by
    have e : x = a := by simpa using h
    subst e
    rw [flat_cons, Nat.zero_mul, Nat.zero_add, List.getElem?_append_left (by rw [hs]; exact hj)]
  | x :: l, k + 1, a, j, h, hj => by
    rw [flat_cons, List.getElem?_append_right (by rw [hs, Nat.succ_mul]; omega), hs, show (k + 1) * s + j - s = k * s + j by rw [Nat.succ_mul]; omega]
    exact flat_at hs (by simpa using h) hj
theorem flat_take (hs : ∀ a, (enc a).length = s) : ∀ (l : List α) (k : Nat), flat enc (l.take k) = (flat enc l).take (k * s)
  | [], k => by simp [flat]
  | x :: l, 0 => by simp [flat]
  | x :: l, k + 1 => by
    rw [List.take_succ_cons, flat_cons, flat_cons, flat_take hs l k, List.take_append, hs, show (k + 1) * s - s = k * s by rw [Nat.succ_mul]; omega, List.take_of_length_le (l := enc x) (by rw [hs, Nat.succ_mul]; omega)]
theorem flat_drop (hs : ∀ a, (enc a).length = s) : ∀ (l : List α) (k : Nat), flat enc (l.drop k) = (flat enc l).drop (k * s)
  | [], k => by simp [flat]
  | x :: l, 0 => by simp [flat]
  | x :: l, k + 1 => by
    rw [List.drop_succ_cons, flat_cons, flat_drop hs l k, List.drop_append, hs, show (k + 1) * s - s = k * s by rw [Nat.succ_mul]; omega, show (enc x).drop ((k + 1) * s) = [] from List.drop_eq_nil_of_le (by rw [hs, Nat.succ_mul]; omega), List.nil_append]
theorem flat_one_cell (h1 : ∀ a, ∀ u ∈ enc a, u.oneCell' = true) (l : List α) : ∀ u ∈ flat enc l, u.oneCell' = true := fun u hu => by
  obtain ⟨a, _, h⟩ := List.mem_flatMap.1 hu
  exact h1 a u h
theorem Row.at {w : World} {A : Option Addr} {l : List α} (h : Row w A (flat enc l)) (hs : ∀ a, (enc a).length = s) {k : Nat} {a : α} (hk : l[k]? = some a) (h0 : 0 < s) :
    ∃ b o, A = some ⟨b, o, none⟩ ∧ ∀ j u, (enc a)[j]? = some u → w.cell? ⟨b, o + (k * s + j), none⟩ = some u := by
  have hkl : k < l.length := by
    rcases Nat.lt_or_ge k l.length with g | g
    · exact g
    · rw [List.getElem?_eq_none g] at hk; cases hk
  obtain ⟨b, o, e, hc⟩ := h (by rw [flat_len hs]; exact Nat.mul_pos (by omega) h0)
  refine ⟨b, o, e, fun j u hu => hc _ u ?_⟩
  have hj : j < s := by
    rcases Nat.lt_or_ge j s with g | g
    · exact g
    · rw [List.getElem?_eq_none (by rw [hs]; exact g)] at hu; cases hu
  rw [flat_at hs hk hj]; exact hu
end

theorem Ext.grown {a w w' : World} {v : Value} (h : Ext a w) (hg : w.grownBy w' v.ownBlock) (hv : ∀ k, v.ownBlock = some k → a.heap.size ≤ k) : Ext a w' := RowKit.Below.grown h hg h.size hv

def cutA (A : Option Addr) (cap k s : Nat) : Option Addr := if cap = k then A else A.map (·.add (k * s))
theorem Row.cut {w : World} {A : Option Addr} {xs : List Value} (h : Row w A xs) {n cap k s : Nat} (hl : xs.length = n * s) (hc : n ≤ cap) (hk : k ≤ n) : Row w (cutA A cap k s) (xs.drop (k * s)) := fun h0 => by
  have h1 : k * s < n * s := by rw [List.length_drop, hl] at h0; omega
  have hkn : k < n := Nat.lt_of_mul_lt_mul_right h1
  obtain ⟨b, o, rfl, hcell⟩ := h (by omega)
  unfold cutA
  rw [if_neg (by omega), Option.map_some, add_at]
  exact Row.drop h (k * s) h0
theorem Row.new (w : World) (cs : Array Value) (t : TypeId) : Row (w.alloc (.cells cs t)) (some ⟨w.heap.size, 0, none⟩) cs.toList := fun _ =>
  ⟨_, _, rfl, fun j u hu => by rw [← add_at]; exact World.news_of_block (heap_alloc_new w _) j u hu⟩
theorem run_from {P : Program} {t e : TypeId} {i : TypeInfo} (ht : P.underlying t = some (.slice e)) (hi : P.info? e = some i) (A : Option Addr) (n cap : Nat) (k : Int) (W : World) (h0 : 0 ≤ k) (h1 : k ≤ n) :
    (Instr.slice t (.slice A n cap) (some (.int .i64 k)) none none).run P W = .ok (.slice (cutA A cap k.toNat i.size) (n - k.toNat) (cap - k.toNat)) W := by
  simp [Instr.slice, run_underlying ht, Instr.sliceBounds, run_sliceBound, sizeOf, typeInfo, hi, cutA, h0, h1]
theorem run_upto {P : Program} {t e : TypeId} {i : TypeInfo} (ht : P.underlying t = some (.slice e)) (hi : P.info? e = some i) (A : Option Addr) (n cap : Nat) (k : Int) (W : World) (h0 : 0 ≤ k) (h1 : k ≤ cap) :
    (Instr.slice t (.slice A n cap) none (some (.int .i64 k)) none).run P W = .ok (.slice A k.toNat cap) W := by
  have e0 : A.map (·.add 0) = A := by cases A <;> simp [Addr.add]
  simp [Instr.slice, run_underlying ht, Instr.sliceBounds, run_sliceBound, sizeOf, typeInfo, hi, h0, h1, e0]
def roomC (z : Value) (n : Nat) : Array Value := madeCells z.cells n
theorem run_room {P : Program} {t e : TypeId} {i : TypeInfo} {z : Value} {s bytes : Nat} (ht : P.underlying t = some (.slice e)) (hi : P.info? e = some i) (hz : i.zero = some z) (hs : i.size = s) (hby : i.bytes = bytes) (c : Int) (W : World) (h0 : 0 ≤ c) (h1 : (bytes : Int) * c ≤ 281474976710656) (h2 : c ≤ 9223372036854775807) :
    (Instr.makeSlice t (.int .i64 0) (.int .i64 c)).run P W = .ok (.slice (some ⟨W.heap.size, 0, none⟩) 0 c.toNat) (W.alloc (.cells (roomC z (c.toNat * s)) e)) := by
  subst hs
  subst hby
  exact run_make W t e i z ht hi hz .i64 .i64 0 c (Int.le_refl _) h0 h1 h2
theorem roomC_size (z : Value) (n : Nat) : (roomC z n).size = n := size_madeCells _ _

end Go.Proofs.Ytmpomammieenjaa

namespace Go.Proofs.Ytmpomammieenjaa
open Go.ChangeShapes Go.WideShapes Go.ChangeAt Go.RowKit Go.Sort
set_option linter.unusedVariables false
set_option linter.unusedSimpArgs false

def OwnG (t : TypeId) (s : Nat) (w W : World) (v : Value) (n : Nat) (xs : List Value) : Prop := W.ownsRow w.heap.size t s v n xs
section
variable {t : TypeId} {s : Nat} {w W W' : World} {v : Value} {n : Nat} {xs : List Value}
theorem OwnG.nil (t : TypeId) (s : Nat) (w W : World) : OwnG t s w W (.slice none 0 0) 0 [] := World.ownsRow_nil W _ _ _
theorem OwnG.ext (h : OwnG t s w W v n xs) (hx : Ext W W') : OwnG t s w W' v n xs := by
  unfold OwnG at h ⊢
  rcases h with ⟨h1, h2 | ⟨g, cap, cur, h2, h3, h4, h5⟩⟩
  · exact ⟨h1, .inl h2⟩
  · refine ⟨h1, .inr ⟨g, cap, cur, h2, h3, ?_, h5⟩⟩
    have hg : g < W.heap.size := by
      rcases Nat.lt_or_ge g W.heap.size with k | k
      · exact k
      · rw [Array.getElem?_eq_none k] at h4; cases h4
    rw [RowKit.Below.block hx g hg]; exact h4
theorem OwnG.down {w0 : World} (h : OwnG t s w W v n xs) (hx : Ext w0 w) : OwnG t s w0 W v n xs := by
  unfold OwnG at h ⊢
  rcases h with ⟨h1, h2 | ⟨g, cap, cur, h2, h3, h4⟩⟩
  · exact ⟨h1, .inl h2⟩
  · exact ⟨h1, .inr ⟨g, cap, cur, h2, Nat.le_trans hx.size h3, h4⟩⟩
theorem OwnG.form (h : OwnG t s w W v n xs) : ∃ A c, v = .slice A n c ∧ n ≤ c := by
  rcases h.2 with ⟨rfl, h0⟩ | ⟨g, cap, cur, rfl, _, _, h2, _⟩
  · exact ⟨none, 0, by rw [h0], by omega⟩
  · exact ⟨_, _, rfl, h2⟩
theorem OwnG.lt (h : OwnG t s w W v n xs) : ∀ k, v.ownBlock = some k → w.heap.size ≤ k := fun k hk => (World.ownsRow.lt h k hk).1
theorem OwnG.row {A : Option Addr} {c : Nat} (h : OwnG t s w W (.slice A n c) n xs) : Row W A xs := Row.own h
end

abbrev Vb (x : UInt8) : Value := .int .u8 (x.toNat : Int)
def Bys (w : World) (A : Option Addr) (l : List UInt8) : Prop := Row w A (l.map Vb)
theorem Bys.ext {w w' : World} {A : Option Addr} {l : List UInt8} (h : Bys w A l) (hx : Ext w w') : Bys w' A l := Row.ext h hx
theorem Bys.nil (w : World) (A : Option Addr) : Bys w A [] := Row.nil w A
theorem Bys.at {w : World} {A : Option Addr} {l : List UInt8} (h : Bys w A l) {k : Nat} (hk : k < l.length) : ∃ b o, A = some ⟨b, o, none⟩ ∧ w.cell? ⟨b, o + k, none⟩ = some (Vb (l.getD k 0)) := by
  obtain ⟨b, o, e, hc⟩ := h (by rw [List.length_map]; omega)
  refine ⟨b, o, e, hc k _ ?_⟩
  simp [List.getD, hk]
theorem Bys.all {w : World} {b o : Nat} {l : List UInt8} (h : Bys w (some ⟨b, o, none⟩) l) (k : Nat) (hk : k < l.length) : w.cell? ⟨b, o + k, none⟩ = some (Vb (l.getD k 0)) := by
  obtain ⟨b', o', e, hc⟩ := h.at hk
  injection e with e
  injection e with e1 e2 e3
  subst e1
  subst e2
  exact hc
theorem Bys.place {w : World} {A : Option Addr} {l : List UInt8} (h : Bys w A l) (hk : 0 < l.length) : ∃ b o, A = some ⟨b, o, none⟩ := by
  obtain ⟨b, o, e, _⟩ := h.at hk
  exact ⟨b, o, e⟩
theorem Bys.take {w : World} {A : Option Addr} {l : List UInt8} (h : Bys w A l) (k : Nat) : Bys w A (l.take k) := by
  unfold Bys; rw [List.map_take]; exact Row.take h _
theorem Bys.cut {w : World} {A : Option Addr} {l : List UInt8} (h : Bys w A l) {n cap k : Nat} (hn : l.length = n) (hc : n ≤ cap) (hk : k ≤ n) : Bys w (cutA A cap k 1) (l.drop k) := by
  have := Row.cut (s := 1) h (n := n) (cap := cap) (k := k) (by rw [List.length_map, hn, Nat.mul_one]) hc hk
  unfold Bys; rw [List.map_drop]; rw [Nat.mul_one] at this; exact this
def OwnB (w W : World) (v : Value) (l : List UInt8) : Prop := OwnG 5 1 w W v l.length (l.map Vb)
theorem OwnB.nil (w W : World) : OwnB w W (.slice none 0 0) [] := OwnG.nil _ _ _ _
theorem OwnB.ext {w W W' : World} {v : Value} {l : List UInt8} (h : OwnB w W v l) (hx : Ext W W') : OwnB w W' v l := OwnG.ext h hx
theorem OwnB.down {w0 w W : World} {v : Value} {l : List UInt8} (h : OwnB w W v l) (hx : Ext w0 w) : OwnB w0 W v l := OwnG.down h hx
theorem OwnB.open {w W : World} {v : Value} {l : List UInt8} (h : OwnB w W v l) : ∃ A c, v = .slice A l.length c ∧ l.length ≤ c ∧ Bys W A l := by
  obtain ⟨A, c, rfl, hc⟩ := OwnG.form h
  exact ⟨A, c, rfl, hc, OwnG.row h⟩
theorem OwnB.lt {w W : World} {v : Value} {l : List UInt8} (h : OwnB w W v l) : ∀ k, v.ownBlock = some k → w.heap.size ≤ k := OwnG.lt h
def roomB (c : Nat) : Array Value := roomC (.int .u8 0) (c * 1)
theorem OwnB.room {w0 W : World} (hx : Ext w0 W) (c : Nat) (h1 : c ≤ 3000) : OwnB w0 (W.alloc (.cells (roomB c) 5)) (.slice (some ⟨W.heap.size, 0, none⟩) 0 c) [] :=
  World.ownsRow_made W _ _ hx.size (by unfold maxLen; omega) (roomC_size _ _)
theorem OwnB.new {w0 W : World} (hx : Ext w0 W) (l : List UInt8) (hl : l.length ≤ 3000) (cs : Array Value) (hc : cs = (l.map Vb).toArray) : OwnB w0 (W.alloc (.cells cs 5)) (.slice (some ⟨W.heap.size, 0, none⟩) l.length l.length) l := by
  subst hc
  refine ⟨by simp, .inr ⟨W.heap.size, l.length, _, rfl, hx.size, heap_alloc_new W _, Nat.le_refl _, by unfold maxLen; omega, by simp, by simpa using List.take_of_length_le (by simp)⟩⟩
theorem Bys.new (w : World) (l : List UInt8) (cs : Array Value) (hc : cs = (l.map Vb).toArray) : Bys (w.alloc (.cells cs 5)) (some ⟨w.heap.size, 0, none⟩) l := by
  subst hc
  have := Row.new w (l.map Vb).toArray 5
  exact this

end Go.Proofs.Ytmpomammieenjaa

namespace Go.Proofs.Ytmpomammieenjaa
open Go.ChangeShapes Go.WideShapes Go.ChangeAt Go.RowKit Go.Sort
set_option linter.unusedVariables false
set_option linter.unusedSimpArgs false

def cmpI (a b : Int) : Int := if a < b then -1 else if b < a then 1 else 0

theorem isNaN_any (a : Int) (w : World) : Calls Try.prog 97 #[Vu a] w fun e w' => e = .returned (.bool false) ∧ w = w' := by
  go_enter Try.func97, Try.ntmps97
  go_wp2
  go_ret
  exact ⟨by simp, rfl⟩

theorem compare_any (a b : Int) (w : World) : Calls Try.prog 74 #[Vu a, Vu b] w fun e w' => e = .returned (Vi (cmpI a b)) ∧ w = w' := by
  go_enter Try.func74, Try.ntmps74
  go_wp2_with (go_at_call 97; refine (isNaN_any _ _).mono ?_; rintro e w' ⟨rfl, rfl⟩)
  all_goals go_ret
  all_goals refine ⟨?_, rfl⟩
  all_goals (refine ret_i64 ?_; unfold cmpI; (repeat' split) <;> omega)

end Go.Proofs.Ytmpomammieenjaa

namespace Go.Proofs.Ytmpomammieenjaa
open Go.ChangeShapes Go.WideShapes Go.ChangeAt Go.RowKit Go.Sort
set_option linter.unusedVariables false
set_option linter.unusedSimpArgs false

/- an error that is a Code, 0 for none -/
def errv (c : Int) : Value := if c = 0 then .nilIface else .iface 88 (.int .i64 c)

theorem err_eql (c : Int) : ∀ (x : Int) (W : World), (binOp .eql 48 (.iface 88 (.int .i64 c)) (.iface 88 (.int .i64 x))).run Try.prog W = .ok (.bool (c == x)) W := by
  intro x W
  obtain ⟨i38, h1, h2⟩ : ∃ i, Try.prog.info? 88 = some i ∧ i.comparable = true := by
    have h : (Try.prog.info? 88).map (fun i => i.comparable) = some true := by kernel_rfl
    cases hi : Try.prog.info? 88 with
    | none => rw [hi] at h; cases h
    | some i => rw [hi] at h; exact ⟨i, rfl, by simpa using h⟩
  have deep : ∀ d : Nat, (Op.equalIn (d + 2) 48 (.iface 88 (.int .i64 c)) (.iface 88 (.int .i64 x))).run Try.prog W = .ok (c == x) W := fun d => by
    simp [Op.equalIn, run_underlying Try.underlying48, run_underlying Try.underlying88, typeInfo, h1, h2]
  simp only [binOp]
  simp [Op.equal, Op.maxDepth, deep 9998]

theorem code_zero (w : World) : Calls Try.prog 13 #[.nilIface] w fun e w' => e = .returned (Vi 0) ∧ w = w' := by
  go_enter Try.func13, Try.ntmps13
  go_wp2
  go_ret
  exact ⟨rfl, rfl⟩

theorem code_some (c : Int) (w : World) (h1 : 1 ≤ c) (h6 : c ≤ 6) : Calls Try.prog 13 #[.iface 88 (.int .i64 c)] w fun e w' => e = .returned (Vi c) ∧ w = w' := by
  have heq := err_eql c
  go_enter Try.func13, Try.ntmps13
  go_wp2
  go_loop [3] (fun i => ∃ k : Int, 1 ≤ k ∧ k ≤ c ∧ i = .int .i64 k) (fun i => (c - intOf i).toNat)
  case atStart => exact ⟨1, by omega, by omega, rfl⟩
  case round =>
    obtain ⟨k, hk1, hkc, rfl⟩ := hrel
    by_cases hlt : k = c
    · subst hlt
      go_wp2
      go_ret
      exact ⟨rfl, rfl⟩
    · have h1' : (c == k) = false := by simp; omega
      go_wp2
      go_round
      case rel => exact ⟨k + 1, by omega, by omega, rfl⟩
      case measure => simp [intOf]; omega

theorem code_any (c : Int) (w : World) (h0 : 0 ≤ c) (h6 : c ≤ 6) : Calls Try.prog 13 #[errv c] w fun e w' => e = .returned (Vi c) ∧ w = w' := by
  by_cases h : c = 0
  · subst h; exact code_zero w
  · simp only [errv, if_neg h]; exact code_some c w (by omega) h6

end Go.Proofs.Ytmpomammieenjaa

namespace Go.Proofs.Ytmpomammieenjaa
open Go.ChangeShapes Go.WideShapes Go.ChangeAt Go.RowKit Go.Sort
set_option linter.unusedVariables false
set_option linter.unusedSimpArgs false

theorem none_any (a b : Int) (w : World) : Calls Try.prog 29 #[idv a b] w fun e w' => e = .returned (.bool (a == 0)) ∧ Ext w w' := by
  go_enter Try.func29, Try.ntmps29
  go_wp2
  go_ret
  exact ⟨rfl, (Ext.refl _).alloc _⟩

def idEq (a b c d : Int) : Bool := decide (a = c ∧ b = d)

theorem id_eql (a b c d : Int) (W : World) : (binOp .eql 41 (idv a b) (idv c d)).run Try.prog W = .ok (.bool (idEq a b c d)) W := by
  by_cases h1 : a = c
  · by_cases h2 : b = d
    · simp [go_sem, idEq, h1, h2]
    · have h2' : (b == d) = false := by simpa using h2
      simp [go_sem, idEq, h1, h2, h2']
  · have h1' : (a == c) = false := by simpa using h1
    simp [go_sem, idEq, h1, h1']

def cmpId (a b c d : Int) : Int := if a = c then cmpI b d else cmpI a c

theorem cmp_any (a b c d : Int) (w : World) : Calls Try.prog 53 #[idv a b, idv c d] w fun e w' => e = .returned (Vi (cmpId a b c d)) ∧ Ext w w' := by
  by_cases h : a = c
  · subst h
    go_enter Try.func53, Try.ntmps53
    go_wp2_with (go_at_call 74; refine (compare_any _ _ _).mono ?_; rintro e w' ⟨rfl, rfl⟩)
    go_ret
    exact ⟨by simp [cmpId], ((Ext.refl _).alloc _).alloc _⟩
  · have h' : (a != c) = true := by simpa using h
    go_enter Try.func53, Try.ntmps53
    go_wp2_with (go_at_call 74; refine (compare_any _ _ _).mono ?_; rintro e w' ⟨rfl, rfl⟩)
    go_ret
    exact ⟨by simp [cmpId, h], ((Ext.refl _).alloc _).alloc _⟩

end Go.Proofs.Ytmpomammieenjaa

namespace Go.Proofs.Ytmpomammieenjaa
open Go.ChangeShapes Go.WideShapes Go.ChangeAt Go.RowKit Go.Sort
set_option linter.unusedVariables false
set_option linter.unusedSimpArgs false

theorem run_append_rowB {P : Program} (w : World) (base : Nat) (t ty e : TypeId) (i : TypeInfo) (z : Value) (size bytes : Nat) (ht : P.underlying t = some (.slice e)) (hi : P.info? e = some i) (hz : i.zero = some z)
    (hsize : i.size = size) (hby : i.bytes = bytes) (hzs : z.cells.size = size) (hsz : 0 < size)
    (v : Value) (n : Nat) (xs : List Value) (hown : w.ownsRow base e size v n xs)
    (A : Option Addr) (m c : Nat) (news : List Value) (hl : news.length = m * size) (hr : Row w A news) (h1 : ∀ u ∈ news, u.oneCell' = true)
    (h63 : n + m ≤ maxLen) (hbytes : (n + m) * bytes ≤ 140737488355328) (hbase : base ≤ w.heap.size) :
    ∃ v' w', (Builtin.append_ #[t, t] ty #[v, .slice A m c]).run P w = .ok v' w' ∧ w'.ownsRow base e size v' (n + m) (xs ++ news) ∧ w.grownBy w' v.ownBlock ∧ (v'.ownBlock = v.ownBlock ∨ v'.ownBlock = some w.heap.size) := by
  cases A with
  | none =>
    have h0 : news = [] := by
      cases news with
      | nil => rfl
      | cons u us => obtain ⟨b, o, e, _⟩ := hr (by simp); cases e
    subst h0
    have hm : m = 0 := by
      have := hl
      simp only [List.length_nil] at this
      rcases Nat.mul_eq_zero.1 this.symm with h | h
      · exact h
      · omega
    subst hm
    refine ⟨v, w, ?_, by simpa using hown, ⟨rfl, rfl, rfl, Nat.le_refl _, fun _ _ _ => rfl⟩, .inl rfl⟩
    rcases hown.2 with ⟨rfl, rfl⟩ | ⟨g, cap, cur, rfl, _, _, hnc, _⟩
    · simp [Builtin.append_, run_underlying ht, sizeOf, typeInfo, hi, Builtin.lenOf, Builtin.firstCells]
    · simp [Builtin.append_, run_underlying ht, sizeOf, typeInfo, hi, Builtin.lenOf, Builtin.firstCells, hnc, storeCells]
  | some ad =>
    obtain ⟨v', w', hrun, h2, h3, _, h5⟩ := run_append_own_at (P := P) w base t ty e i z size bytes ht hi hz hsize hby hzs hsz v n xs hown ad m c news hl (fun j u hu => by
      obtain ⟨b, o, e, hc⟩ := hr (by cases news <;> simp at hu ⊢)
      injection e with e
      subst e
      rw [add_at]
      exact hc j u hu) h1 h63 hbytes hbase
    exact ⟨v', w', hrun, h2, h3, h5⟩

def encI (x : It) : List Value := [Vu x.c, Vu x.k, Vu x.lc, Vu x.lk, Vu x.rc, Vu x.rk, .int .i32 x.ch]
abbrev itv (x : It) : Value := .agg #[.int .u32 x.c, .int .u32 x.k, .int .u32 x.lc, .int .u32 x.lk, .int .u32 x.rc, .int .u32 x.rk, .int .i32 x.ch]
theorem encI_len (p : It) : (encI p).length = 7 := rfl
theorem encI_one (p : It) : ∀ u ∈ encI p, u.oneCell' = true := by intro u hu; simp [encI] at hu; rcases hu with rfl | rfl | rfl | rfl | rfl | rfl | rfl <;> rfl
theorem infoI : (Try.prog.info? 43).map (fun i => (i.zero, i.size, i.bytes)) = some (some (.agg #[.int .u32 0, .int .u32 0, .int .u32 0, .int .u32 0, .int .u32 0, .int .u32 0, .int .i32 0]), 7, 28) := by kernel_rfl
def ItS (w : World) (A : Option Addr) (l : List It) : Prop := Row w A (flat encI l)
theorem ItS.ext {w w' : World} {A : Option Addr} {l : List It} (h : ItS w A l) (hx : Ext w w') : ItS w' A l := Row.ext h hx
theorem ItS.nil (w : World) (A : Option Addr) : ItS w A [] := Row.nil w A
structure ItC (w : World) (b o : Nat) (x : It) : Prop where
  c0 : w.cell? ⟨b, o, none⟩ = some (Vu x.c)
  c1 : w.cell? ⟨b, o + 1, none⟩ = some (Vu x.k)
  c2 : w.cell? ⟨b, o + 2, none⟩ = some (Vu x.lc)
  c3 : w.cell? ⟨b, o + 3, none⟩ = some (Vu x.lk)
  c4 : w.cell? ⟨b, o + 4, none⟩ = some (Vu x.rc)
  c5 : w.cell? ⟨b, o + 5, none⟩ = some (Vu x.rk)
  c6 : w.cell? ⟨b, o + 6, none⟩ = some (.int .i32 x.ch)
theorem ItC.ext {w w' : World} {b o : Nat} {x : It} (h : ItC w b o x) (hx : Ext w w') : ItC w' b o x := ⟨hx.keep h.c0, hx.keep h.c1, hx.keep h.c2, hx.keep h.c3, hx.keep h.c4, hx.keep h.c5, hx.keep h.c6⟩
theorem ItS.at {w : World} {A : Option Addr} {l : List It} (h : ItS w A l) {k : Nat} (hk : k < l.length) : ∃ b o x, A = some ⟨b, o, none⟩ ∧ l[k]? = some x ∧ ItC w b (o + k * 7) x := by
  obtain ⟨x, hp⟩ : ∃ p, l[k]? = some p := ⟨l[k], List.getElem?_eq_getElem hk⟩
  obtain ⟨b, o, e, hc⟩ := Row.at h encI_len hp (by omega)
  exact ⟨b, o, x, e, hp, hc 0 _ rfl, hc 1 _ rfl, hc 2 _ rfl, hc 3 _ rfl, hc 4 _ rfl, hc 5 _ rfl, hc 6 _ rfl⟩
theorem ItS.take {w : World} {A : Option Addr} {l : List It} (h : ItS w A l) (k : Nat) : ItS w A (l.take k) := by
  unfold ItS; rw [flat_take encI_len]; exact Row.take h _
theorem ItS.cut {w : World} {A : Option Addr} {l : List It} (h : ItS w A l) {n cap k : Nat} (hn : l.length = n) (hc : n ≤ cap) (hk : k ≤ n) : ItS w (cutA A cap k 7) (l.drop k) := by
  unfold ItS; rw [flat_drop encI_len]; exact Row.cut h (n := n) (by rw [flat_len encI_len, hn]) hc hk
theorem ItS.new (w : World) (x : It) : ItS (w.alloc (.cells #[.int .u32 x.c, .int .u32 x.k, .int .u32 x.lc, .int .u32 x.lk, .int .u32 x.rc, .int .u32 x.rk, .int .i32 x.ch] 43)) (some ⟨w.heap.size, 0, none⟩) [x] := Row.new w #[.int .u32 x.c, .int .u32 x.k, .int .u32 x.lc, .int .u32 x.lk, .int .u32 x.rc, .int .u32 x.rk, .int .i32 x.ch] 43
theorem fromI (A : Option Addr) (n cap k : Nat) (h1 : k ≤ n) (z : Int) (hz : z = k) (W : World) : (Instr.slice 35 (.slice A n cap) (some (.int .i64 z)) none none).run Try.prog W = .ok (.slice (cutA A cap k 7) (n - k) (cap - k)) W := by
  subst hz
  obtain ⟨i, hi, hz0, hz1, hz2⟩ := info_parts infoI
  have := run_from Try.underlying35 hi A n cap k W (by omega) (by omega)
  rw [hz1] at this
  exact this
theorem uptoI (A : Option Addr) (n cap k : Nat) (h1 : k ≤ cap) (z : Int) (hz : z = k) (W : World) : (Instr.slice 35 (.slice A n cap) none (some (.int .i64 z)) none).run Try.prog W = .ok (.slice A k cap) W := by
  subst hz
  obtain ⟨i, hi, hz0, hz1, hz2⟩ := info_parts infoI
  exact run_upto Try.underlying35 hi A n cap k W (by omega) (by omega)
def OwnI (w W : World) (v : Value) (l : List It) : Prop := OwnG 43 7 w W v l.length (flat encI l)
theorem OwnI.nil (w W : World) : OwnI w W (.slice none 0 0) [] := OwnG.nil _ _ _ _
theorem OwnI.ext {w W W' : World} {v : Value} {l : List It} (h : OwnI w W v l) (hx : Ext W W') : OwnI w W' v l := OwnG.ext h hx
theorem OwnI.down {w0 w W : World} {v : Value} {l : List It} (h : OwnI w W v l) (hx : Ext w0 w) : OwnI w0 W v l := OwnG.down h hx
theorem OwnI.lt {w W : World} {v : Value} {l : List It} (h : OwnI w W v l) : ∀ k, v.ownBlock = some k → w.heap.size ≤ k ∧ k < W.heap.size := World.ownsRow.lt h
theorem OwnI.open {w W : World} {v : Value} {l : List It} (h : OwnI w W v l) : ∃ A c, v = .slice A l.length c ∧ l.length ≤ c ∧ ItS W A l := by
  obtain ⟨A, c, rfl, hc⟩ := OwnG.form h
  exact ⟨A, c, rfl, hc, OwnG.row h⟩
theorem OwnI.kept {w W W' : World} {v : Value} {l : List It} {row : Option Nat} (h : OwnI w W v l) (hg : W.grownBy W' row) (hn : v.ownBlock = none ∨ v.ownBlock ≠ row) : OwnI w W' v l := World.ownsRow.kept h hg hn
def RetI (w : World) (l : List It) (e : Ending) (w' : World) : Prop := ∃ v, e = .returned v ∧ OwnI w w' v l ∧ Ext w w'
theorem RetI.down {w0 w w' : World} {l : List It} {e : Ending} (h : RetI w l e w') (hx : Ext w0 w) : RetI w0 l e w' := by
  obtain ⟨v, h1, h2, h3⟩ := h
  exact ⟨v, h1, h2.down hx, hx.trans h3⟩

theorem wpList_append_I {w0 w : World} {ops : Array Oper} {rest : List Oper} {o : Oper} {a : Act} {Q : Exit → Act → World → Prop} (hgd : o.guard = none) (s x : Operand)
    (ho : o.op = .call { callee := .builtin .append, args := #[s, x], argTypes := #[35, 35] })
    (v : Value) (l : List It) (hs : a.eval s = v) (hown : OwnI w0 w v l) (hx : Ext w0 w)
    (A : Option Addr) (m c : Nat) (r : List It) (he : a.eval x = .slice A m c) (hm : r.length = m) (hr : ItS w A r) (hb : l.length + r.length ≤ 100000)
    (h : ∀ v' w', OwnI w0 w' v' (l ++ r) → Ext w0 w' → w.grownBy w' v.ownBlock → (v'.ownBlock = v.ownBlock ∨ v'.ownBlock = some w.heap.size) → wpList Try.prog ops Q rest (a.put o.dst v') w') : wpList Try.prog ops Q (o :: rest) a w := by
  refine wpList_plain hgd fun K hK => ?_
  obtain ⟨i, hi, hz0, hz1, hz2⟩ := info_parts infoI
  subst hm
  obtain ⟨v', w', hrun, h2, h3, h4⟩ := run_append_rowB (P := Try.prog) w w0.heap.size 35 o.type 43 i _ 7 28 Try.underlying35 hi hz0 hz1 hz2 rfl (by omega) v l.length _ hown A r.length c _ (flat_len encI_len r) hr (flat_one_cell encI_one r)
    (by unfold maxLen; omega) (by omega) hx.size
  unfold Oper.wp execOp
  simp only [ho, resolve, invoke, builtin, Sem.run_bind, Sem.run_pure, Result.andThen_ok, List.map_toArray, List.map_cons, List.map_nil, hs, he, hrun]
  refine hK _ _ (h v' w' ?_ (hx.grown h3 (OwnG.lt hown)) h3 h4)
  unfold OwnI OwnG
  rw [flat_append, List.length_append]
  exact h2

def encR (x : Rn) : List Value := [Vu x.c, Vu x.k, Vu x.lc, Vu x.lk, Vu x.rc, Vu x.rk, .string ⟨x.t.toArray⟩]
theorem encR_len (p : Rn) : (encR p).length = 7 := rfl
def RnS (w : World) (A : Option Addr) (l : List Rn) : Prop := Row w A (flat encR l)
theorem RnS.ext {w w' : World} {A : Option Addr} {l : List Rn} (h : RnS w A l) (hx : Ext w w') : RnS w' A l := Row.ext h hx
theorem RnS.nil (w : World) (A : Option Addr) : RnS w A [] := Row.nil w A
structure RnC (w : World) (b o : Nat) (x : Rn) : Prop where
  c0 : w.cell? ⟨b, o, none⟩ = some (Vu x.c)
  c1 : w.cell? ⟨b, o + 1, none⟩ = some (Vu x.k)
  c2 : w.cell? ⟨b, o + 2, none⟩ = some (Vu x.lc)
  c3 : w.cell? ⟨b, o + 3, none⟩ = some (Vu x.lk)
  c4 : w.cell? ⟨b, o + 4, none⟩ = some (Vu x.rc)
  c5 : w.cell? ⟨b, o + 5, none⟩ = some (Vu x.rk)
  c6 : w.cell? ⟨b, o + 6, none⟩ = some (.string ⟨x.t.toArray⟩)
theorem RnC.ext {w w' : World} {b o : Nat} {x : Rn} (h : RnC w b o x) (hx : Ext w w') : RnC w' b o x := ⟨hx.keep h.c0, hx.keep h.c1, hx.keep h.c2, hx.keep h.c3, hx.keep h.c4, hx.keep h.c5, hx.keep h.c6⟩
theorem RnS.at {w : World} {A : Option Addr} {l : List Rn} (h : RnS w A l) {k : Nat} (hk : k < l.length) : ∃ b o x, A = some ⟨b, o, none⟩ ∧ l[k]? = some x ∧ RnC w b (o + k * 7) x := by
  obtain ⟨x, hp⟩ : ∃ p, l[k]? = some p := ⟨l[k], List.getElem?_eq_getElem hk⟩
  obtain ⟨b, o, e, hc⟩ := Row.at h encR_len hp (by omega)
  exact ⟨b, o, x, e, hp, hc 0 _ rfl, hc 1 _ rfl, hc 2 _ rfl, hc 3 _ rfl, hc 4 _ rfl, hc 5 _ rfl, hc 6 _ rfl⟩
theorem RnS.take {w : World} {A : Option Addr} {l : List Rn} (h : RnS w A l) (k : Nat) : RnS w A (l.take k) := by
  unfold RnS; rw [flat_take encR_len]; exact Row.take h _
theorem RnS.cut {w : World} {A : Option Addr} {l : List Rn} (h : RnS w A l) {n cap k : Nat} (hn : l.length = n) (hc : n ≤ cap) (hk : k ≤ n) : RnS w (cutA A cap k 7) (l.drop k) := by
  unfold RnS; rw [flat_drop encR_len]; exact Row.cut h (n := n) (by rw [flat_len encR_len, hn]) hc hk
def BoxI (W : World) (g : Nat) (x : It) : Prop := W.heap[g]? = some (.cells #[Vu x.c, Vu x.k, Vu x.lc, Vu x.lk, Vu x.rc, Vu x.rk, .int .i32 x.ch] 43 (0, 0))
theorem BoxI.grown {W W' : World} {g : Nat} {x : It} {row : Option Nat} (h : BoxI W g x) (hg : W.grownBy W' row) (hn : some g ≠ row) : BoxI W' g x := by
  unfold BoxI at h ⊢
  rw [hg.block g (Array.getElem?_eq_some_iff.1 h).1 hn]; exact h
theorem BoxI.ext {W W' : World} {g : Nat} {x : It} (h : BoxI W g x) (hx : Ext W W') : BoxI W' g x := by
  unfold BoxI at h ⊢
  rw [RowKit.Below.block hx g (Array.getElem?_eq_some_iff.1 h).1]; exact h
theorem BoxI.cells {W : World} {g : Nat} {x : It} (h : BoxI W g x) : ItC W g 0 x :=
  ⟨by rw [cell_of_row W g 0 _ _ _ h]; rfl, by rw [cell_of_row W g (0 + 1) _ _ _ h]; rfl, by rw [cell_of_row W g (0 + 2) _ _ _ h]; rfl, by rw [cell_of_row W g (0 + 3) _ _ _ h]; rfl, by rw [cell_of_row W g (0 + 4) _ _ _ h]; rfl, by rw [cell_of_row W g (0 + 5) _ _ _ h]; rfl, by rw [cell_of_row W g (0 + 6) _ _ _ h]; rfl⟩
theorem BoxI.lt {W : World} {g : Nat} {x : It} (h : BoxI W g x) : g < W.heap.size := (Array.getElem?_eq_some_iff.1 h).1

end Go.Proofs.Ytmpomammieenjaa

namespace Go.Proofs.Ytmpomammieenjaa
open Go.ChangeShapes Go.WideShapes Go.ChangeAt Go.RowKit Go.Sort
set_option linter.unusedVariables false
set_option linter.unusedSimpArgs false

set_option maxRecDepth 100000 in
theorem structs_open {α : Type} [Inhabited α] {en : α → List Value} {s : Nat} (hs : ∀ x, (en x).length = s) (h0 : 0 < s) {T E : TypeId} (hT : Try.prog.underlying T = some (.slice E)) (ce : Try.prog.cellsOf E = s) {good : α → Prop}
    {H : Type} {enc : TypeId × Value → H} {W : World} {base b0 : Nat} {sp : Nat → Bool} {hd : Bool} {r : Reach} {v : Value} {d : DataW H} {p : List MemPlace} 
    (hel : ∀ (fuel : Nat) (cs : List Value) (x : DataW H × List MemPlace), cs.length = s → DataW.trod enc Try.prog W base sp hd fuel E cs = some x → ∃ q, good q ∧ en q = cs)
    (hv : Value.okWide Try.prog W r b0 T v) (h : DataW.Trod enc Try.prog W base sp hd T v d p) :
    ∃ (A : Option Addr) (n cap : Nat) (l : List α), v = .slice A n cap ∧ l.length = n ∧ n ≤ cap ∧ n ≤ maxLen ∧ Row W A (flat en l) ∧ ∀ x ∈ l, good x := by
  obtain ⟨a, len, cap, rfl⟩ := okWide_slice hT hv
  obtain ⟨fuel, hf⟩ := h
  have hf' : DataW.trod enc Try.prog W base sp hd fuel T [.slice a len cap] = some (d, p) := hf
  rcases Go.Deep.open_slice hT hf' with ⟨e, _⟩ | ⟨a', len', cap', m, n, D, Pl, e, _, hl, hm, hmm, _, hi⟩
  · injection e with e
    injection e with e1 e2 e3
    subst e1
    subst e2
    subst e3
    exact ⟨_, _, _, [], rfl, rfl, Nat.le_refl _, by omega, Row.nil _ _, by simp⟩
  · injection e with e
    injection e with e1 e2 e3
    subst e1
    subst e2
    subst e3
    have hml : len ≤ m := by rw [hmm]; split <;> omega
    have hcell : ∀ i, i < len → ∃ q : α, good q ∧ ∀ j u, (en q)[j]? = some u → W.cell? (a'.add (i * s + j)) = some u := by
      intro i hil
      obtain ⟨cs', h1, h2⟩ := hi i (by omega)
      rw [ce] at h1
      obtain ⟨_, hlen, hc⟩ := World.cells?_some h1
      obtain ⟨q, hq, hqc⟩ := hel _ _ _ hlen h2
      refine ⟨q, hq, fun j u hu => ?_⟩
      have hj : j < s := by
        rcases Nat.lt_or_ge j s with g | g
        · exact g
        · rw [List.getElem?_eq_none (by rw [hs]; exact g)] at hu; cases hu
      have e0 := hc j hj
      rw [Go.Deep.add_add] at e0
      rw [e0, ← hqc]
      exact hu
    obtain ⟨q, hq⟩ := Go.Deep.choose_lt hcell
    refine ⟨some a', len, cap, (List.range len).map q, rfl, by simp, hl, by omega, ?_, ?_⟩
    · intro hp
      have hlen : 0 < len := by
        rw [flat_len hs] at hp
        simp at hp
        rcases Nat.eq_zero_or_pos len with z | z
        · rw [z] at hp; simp at hp
        · exact z
      obtain ⟨u0, hu0⟩ : ∃ u, (en (q 0))[0]? = some u := ⟨_, List.getElem?_eq_getElem (by rw [hs]; exact h0)⟩
      have g0 := (hq 0 hlen).2 0 u0 hu0
      obtain ⟨b, o, spot⟩ := a'
      have hspot : spot = none := by simpa [Addr.add] using World.cell?_spot g0
      subst hspot
      refine ⟨b, o, rfl, fun j u hu => ?_⟩
      have hj : j < len * s := by
        rcases Nat.lt_or_ge j (len * s) with k | k
        · exact k
        · rw [List.getElem?_eq_none (by rw [flat_len hs]; simpa using k)] at hu; cases hu
      have hdiv : j / s < len := Nat.div_lt_of_lt_mul (by rw [Nat.mul_comm]; exact hj)
      have hget : ((List.range len).map q)[j / s]? = some (q (j / s)) := by
        rw [List.getElem?_map, List.getElem?_range hdiv]; rfl
      have ej : j = j / s * s + j % s := by rw [Nat.mul_comm]; exact (Nat.div_add_mod j s).symm
      rw [ej, flat_at hs hget (Nat.mod_lt _ h0)] at hu
      have := (hq (j / s) hdiv).2 (j % s) u hu
      rw [add_at] at this
      rw [ej]; exact this
    · intro x hx
      obtain ⟨i, hi', rfl⟩ := List.mem_map.1 hx
      exact (hq i (List.mem_range.1 hi')).1

set_option maxRecDepth 100000 in
theorem id_cells {H : Type} {enc : TypeId × Value → H} {W : World} {base : Nat} {sp : Nat → Bool} {hd : Bool} {fuel : Nat} {v0 v1 : Value} {x : DataW H × List MemPlace} (h : DataW.trod enc Try.prog W base sp hd fuel 41 [v0, v1] = some x) :
    ∃ a b : Int, v0 = Vu a ∧ v1 = Vu b ∧ 0 ≤ a ∧ a ≤ 4294967295 ∧ 0 ≤ b ∧ b ≤ 4294967295 := by
  obtain ⟨xs, k, hk, hxy, _, hxl, hfd⟩ := DataW.trod_struct Try.underlying41 h
  match xs, hxl with
  | [y0, y1], _ =>
    have g0 := hfd 0 _ rfl
    have g1 := hfd 1 _ rfl
    have cu : Try.prog.cellsOf 39 = 1 := by kernel_rfl
    simp [cu] at g0 g1
    obtain ⟨a, t0, _, wa⟩ := DataW.trod_int Try.underlying39 g0
    obtain ⟨b, t1, _, wb⟩ := DataW.trod_int Try.underlying39 g1
    simp at t0 t1
    have ba := bounds_u32 wa
    have bb := bounds_u32 wb
    exact ⟨a, b, t0, t1, ba.1, ba.2, bb.1, bb.2⟩

end Go.Proofs.Ytmpomammieenjaa

namespace Go.Proofs.Ytmpomammieenjaa
open Go.ChangeShapes Go.WideShapes Go.ChangeAt Go.RowKit Go.Sort
set_option linter.unusedVariables false
set_option linter.unusedSimpArgs false
attribute [local go_sem] World.cell?_alloc_some

def encE (x : En) : List Value := [Vu x.c, Vu x.k, .int .i32 x.ch, .bool x.g]
abbrev env (x : En) : Value := .agg #[.int .u32 x.c, .int .u32 x.k, .int .i32 x.ch, .bool x.g]
theorem encE_len (p : En) : (encE p).length = 4 := rfl
theorem encE_one (p : En) : ∀ u ∈ encE p, u.oneCell' = true := by intro u hu; simp [encE] at hu; rcases hu with rfl | rfl | rfl | rfl <;> rfl
theorem infoE : (Try.prog.info? 79).map (fun i => (i.zero, i.size, i.bytes)) = some (some (.agg #[.int .u32 0, .int .u32 0, .int .i32 0, .bool false]), 4, 16) := by kernel_rfl
def EnS (w : World) (A : Option Addr) (l : List En) : Prop := Row w A (flat encE l)
theorem EnS.ext {w w' : World} {A : Option Addr} {l : List En} (h : EnS w A l) (hx : Ext w w') : EnS w' A l := Row.ext h hx
theorem EnS.nil (w : World) (A : Option Addr) : EnS w A [] := Row.nil w A
structure EnC (w : World) (b o : Nat) (x : En) : Prop where
  c0 : w.cell? ⟨b, o, none⟩ = some (Vu x.c)
  c1 : w.cell? ⟨b, o + 1, none⟩ = some (Vu x.k)
  c2 : w.cell? ⟨b, o + 2, none⟩ = some (.int .i32 x.ch)
  c3 : w.cell? ⟨b, o + 3, none⟩ = some (.bool x.g)
theorem EnC.ext {w w' : World} {b o : Nat} {x : En} (h : EnC w b o x) (hx : Ext w w') : EnC w' b o x := ⟨hx.keep h.c0, hx.keep h.c1, hx.keep h.c2, hx.keep h.c3⟩
theorem EnS.at {w : World} {A : Option Addr} {l : List En} (h : EnS w A l) {k : Nat} (hk : k < l.length) : ∃ b o x, A = some ⟨b, o, none⟩ ∧ l[k]? = some x ∧ EnC w b (o + k * 4) x := by
  obtain ⟨x, hp⟩ : ∃ p, l[k]? = some p := ⟨l[k], List.getElem?_eq_getElem hk⟩
  obtain ⟨b, o, e, hc⟩ := Row.at h encE_len hp (by omega)
  exact ⟨b, o, x, e, hp, hc 0 _ rfl, hc 1 _ rfl, hc 2 _ rfl, hc 3 _ rfl⟩
theorem EnS.take {w : World} {A : Option Addr} {l : List En} (h : EnS w A l) (k : Nat) : EnS w A (l.take k) := by
  unfold EnS; rw [flat_take encE_len]; exact Row.take h _
theorem EnS.cut {w : World} {A : Option Addr} {l : List En} (h : EnS w A l) {n cap k : Nat} (hn : l.length = n) (hc : n ≤ cap) (hk : k ≤ n) : EnS w (cutA A cap k 4) (l.drop k) := by
  unfold EnS; rw [flat_drop encE_len]; exact Row.cut h (n := n) (by rw [flat_len encE_len, hn]) hc hk
theorem EnS.new (w : World) (x : En) : EnS (w.alloc (.cells #[.int .u32 x.c, .int .u32 x.k, .int .i32 x.ch, .bool x.g] 79)) (some ⟨w.heap.size, 0, none⟩) [x] := Row.new w #[.int .u32 x.c, .int .u32 x.k, .int .i32 x.ch, .bool x.g] 79
theorem fromE (A : Option Addr) (n cap k : Nat) (h1 : k ≤ n) (z : Int) (hz : z = k) (W : World) : (Instr.slice 24 (.slice A n cap) (some (.int .i64 z)) none none).run Try.prog W = .ok (.slice (cutA A cap k 4) (n - k) (cap - k)) W := by
  subst hz
  obtain ⟨i, hi, hz0, hz1, hz2⟩ := info_parts infoE
  have := run_from Try.underlying24 hi A n cap k W (by omega) (by omega)
  rw [hz1] at this
  exact this
theorem uptoE (A : Option Addr) (n cap k : Nat) (h1 : k ≤ cap) (z : Int) (hz : z = k) (W : World) : (Instr.slice 24 (.slice A n cap) none (some (.int .i64 z)) none).run Try.prog W = .ok (.slice A k cap) W := by
  subst hz
  obtain ⟨i, hi, hz0, hz1, hz2⟩ := info_parts infoE
  exact run_upto Try.underlying24 hi A n cap k W (by omega) (by omega)
def OwnE (w W : World) (v : Value) (l : List En) : Prop := OwnG 79 4 w W v l.length (flat encE l)
theorem OwnE.nil (w W : World) : OwnE w W (.slice none 0 0) [] := OwnG.nil _ _ _ _
theorem OwnE.ext {w W W' : World} {v : Value} {l : List En} (h : OwnE w W v l) (hx : Ext W W') : OwnE w W' v l := OwnG.ext h hx
theorem OwnE.down {w0 w W : World} {v : Value} {l : List En} (h : OwnE w W v l) (hx : Ext w0 w) : OwnE w0 W v l := OwnG.down h hx
theorem OwnE.lt {w W : World} {v : Value} {l : List En} (h : OwnE w W v l) : ∀ k, v.ownBlock = some k → w.heap.size ≤ k ∧ k < W.heap.size := World.ownsRow.lt h
theorem OwnE.open {w W : World} {v : Value} {l : List En} (h : OwnE w W v l) : ∃ A c, v = .slice A l.length c ∧ l.length ≤ c ∧ EnS W A l := by
  obtain ⟨A, c, rfl, hc⟩ := OwnG.form h
  exact ⟨A, c, rfl, hc, OwnG.row h⟩
theorem OwnE.kept {w W W' : World} {v : Value} {l : List En} {row : Option Nat} (h : OwnE w W v l) (hg : W.grownBy W' row) (hn : v.ownBlock = none ∨ v.ownBlock ≠ row) : OwnE w W' v l := World.ownsRow.kept h hg hn
theorem OwnE.empty {w0 W : World} (hx : Ext w0 W) : OwnE w0 (W.alloc (.cells #[] 79)) (.slice (some ⟨W.heap.size, 0, none⟩) 0 0) [] :=
  ⟨by simp [flat], .inr ⟨W.heap.size, 0, #[], rfl, hx.size, heap_alloc_new W _, Nat.le_refl _, by unfold maxLen; omega, by simp, by simp [flat]⟩⟩
theorem wpList_append_E {w0 w : World} {ops : Array Oper} {rest : List Oper} {o : Oper} {a : Act} {Q : Exit → Act → World → Prop} (hgd : o.guard = none) (s x : Operand)
    (ho : o.op = .call { callee := .builtin .append, args := #[s, x], argTypes := #[24, 24] })
    (v : Value) (l : List En) (hs : a.eval s = v) (hown : OwnE w0 w v l) (hx : Ext w0 w)
    (A : Option Addr) (m c : Nat) (r : List En) (he : a.eval x = .slice A m c) (hm : r.length = m) (hr : EnS w A r) (hb : l.length + r.length ≤ 100000)
    (h : ∀ v' w', OwnE w0 w' v' (l ++ r) → Ext w0 w' → w.grownBy w' v.ownBlock → (v'.ownBlock = v.ownBlock ∨ v'.ownBlock = some w.heap.size) → wpList Try.prog ops Q rest (a.put o.dst v') w') : wpList Try.prog ops Q (o :: rest) a w := by
  refine wpList_plain hgd fun K hK => ?_
  obtain ⟨i, hi, hz0, hz1, hz2⟩ := info_parts infoE
  subst hm
  obtain ⟨v', w', hrun, h2, h3, h4⟩ := run_append_rowB (P := Try.prog) w w0.heap.size 24 o.type 79 i _ 4 16 Try.underlying24 hi hz0 hz1 hz2 rfl (by omega) v l.length _ hown A r.length c _ (flat_len encE_len r) hr (flat_one_cell encE_one r)
    (by unfold maxLen; omega) (by omega) hx.size
  unfold Oper.wp execOp
  simp only [ho, resolve, invoke, builtin, Sem.run_bind, Sem.run_pure, Result.andThen_ok, List.map_toArray, List.map_cons, List.map_nil, hs, he, hrun]
  refine hK _ _ (h v' w' ?_ (hx.grown h3 (OwnG.lt hown)) h3 h4)
  unfold OwnE OwnG
  rw [flat_append, List.length_append]
  exact h2

abbrev Vz (n : Nat) : Value := .int .i64 (n : Int)
def OwnQ (w W : World) (v : Value) (l : List Nat) : Prop := OwnG 3 1 w W v l.length (l.map Vz)
theorem OwnQ.nil (w W : World) : OwnQ w W (.slice none 0 0) [] := OwnG.nil _ _ _ _
theorem OwnQ.ext {w W W' : World} {v : Value} {l : List Nat} (h : OwnQ w W v l) (hx : Ext W W') : OwnQ w W' v l := OwnG.ext h hx
theorem OwnQ.open {w W : World} {v : Value} {l : List Nat} (h : OwnQ w W v l) : ∃ A c, v = .slice A l.length c ∧ l.length ≤ c ∧ Row W A (l.map Vz) := by
  obtain ⟨A, c, rfl, hc⟩ := OwnG.form h
  exact ⟨A, c, rfl, hc, OwnG.row h⟩
end Go.Proofs.Ytmpomammieenjaa

namespace Go.Proofs.Ytmpomammieenjaa
open Go.ChangeShapes Go.WideShapes Go.ChangeAt Go.RowKit Go.Sort
set_option linter.unusedVariables false
set_option linter.unusedSimpArgs false
attribute [local go_sem] World.cell?_alloc_some

theorem idE_eql (a b c d : Int) (P : Program) (W : World) : (binOp .eql 41 (.agg #[.int .u32 a, .int .u32 b]) (.agg #[.int .u32 c, .int .u32 d])).run Try.prog W = .ok (.bool (decide (a = c ∧ b = d))) W := by
  by_cases h1 : a = c
  · by_cases h2 : b = d
    · subst h1; subst h2; simp [go_sem]
    · have : (b == d) = false := by simpa using h2
      subst h1
      simp [go_sem, this, h2]
  · have : (a == c) = false := by simpa using h1
    simp [go_sem, this, h1]

theorem en_neq (x : En) (W : World) : (binOp .neq 79 (env x) (env x)).run Try.prog W = .ok (.bool false) W := by
  obtain ⟨c, k, ch, g⟩ := x
  cases g <;> simp [go_sem]
set_option maxRecDepth 100000 in
set_option maxHeartbeats 4000000 in
theorem sameE_any (A B : Option Addr) (n cap cap' : Nat) (l : List En) (w : World) (hv : EnS w A l) (hu : EnS w B l) (hn : l.length = n) (hb : n ≤ 100000) :
    Calls Try.prog 22 #[.slice A n cap, .slice B n cap'] w fun e w' => e = .returned (.bool true) ∧ Ext w w' := by
  replace hn := Lib.hid hn
  replace hv := Lib.hid hv
  replace hu := Lib.hid hu
  go_enter Try.func22, Try.ntmps22
  go_wp2
  go_loopw [5] (fun i W => ∃ (k : Nat), k ≤ n ∧ i = .int .i64 k ∧ Ext w W) (fun i _ => n - (intOf i).toNat)
  case atStart => exact ⟨0, Nat.zero_le _, rfl, Ext.refl _⟩
  case round =>
    obtain ⟨k, hk, rfl, hx⟩ := hrel
    by_cases hlt : k < n
    · obtain ⟨b, o, x, rfl, hp, c⟩ := (hv.out.ext hx).at (k := k) (by rw [hn.out]; exact hlt)
      obtain ⟨b', o', x', rfl, hp', c'⟩ := (hu.out.ext hx).at (k := k) (by rw [hn.out]; exact hlt)
      rw [hp] at hp'
      injection hp' with hp'
      subst hp'
      clear hp
      obtain ⟨c0, c1, c2, c3⟩ := c
      obtain ⟨d0, d1, d2, d3⟩ := c'
      have hnq := en_neq x
      go_wp2
      go_quiet (fail)
      go_wp2
      go_roundw
      case rel => exact ⟨k + 1, by omega, by go_num, hx.drewN _⟩
      case measure => simp [intOf]; omega
    · go_wp2
      go_ret
      exact ⟨rfl, hx⟩

end Go.Proofs.Ytmpomammieenjaa

namespace Go.Proofs.Ytmpomammieenjaa
open Go.ChangeShapes Go.WideShapes Go.ChangeAt Go.RowKit Go.Sort
set_option linter.unusedVariables false
set_option linter.unusedSimpArgs false
attribute [local go_sem] World.cell?_alloc_some

abbrev Vq (n : Int) : Value := .int .u64 n
set_option maxRecDepth 100000 in
theorem key_any (c k : Int) (w : World) : Calls Try.prog 95 #[idv c k] w fun e w' => e = .returned (Vq (keyV c k)) ∧ Ext w w' := by
  go_enter Try.func95, Try.ntmps95
  go_wp2
  go_ret
  refine ⟨?_, (Ext.refl _).alloc _⟩
  rfl

end Go.Proofs.Ytmpomammieenjaa

namespace Go.Proofs.Ytmpomammieenjaa
open Go.ChangeShapes Go.WideShapes Go.ChangeAt Go.RowKit Go.Sort
set_option linter.unusedVariables false
set_option linter.unusedSimpArgs false
attribute [local go_sem] World.cell?_alloc_some

abbrev Vp (b : Nat) : Value := .pointer (some ⟨b, 0, none⟩)
abbrev Vnil : Value := .pointer none
structure PtC (W : World) (b : Nat) (c0 c1 c2 : Value) (h n s lo hi : Int) : Prop where
  c0 : W.cell? ⟨b, 0, none⟩ = some c0
  c1 : W.cell? ⟨b, 1, none⟩ = some c1
  c2 : W.cell? ⟨b, 2, none⟩ = some c2
  c3 : W.cell? ⟨b, 3, none⟩ = some (Vi h)
  c4 : W.cell? ⟨b, 4, none⟩ = some (Vi n)
  c5 : W.cell? ⟨b, 5, none⟩ = some (Vi s)
  c6 : W.cell? ⟨b, 6, none⟩ = some (Vq lo)
  c7 : W.cell? ⟨b, 7, none⟩ = some (Vq hi)
theorem PtC.ext {W W' : World} {b : Nat} {c0 c1 c2 : Value} {h n s lo hi : Int} (x : PtC W b c0 c1 c2 h n s lo hi) (hx : Ext W W') : PtC W' b c0 c1 c2 h n s lo hi :=
  ⟨hx.keep x.c0, hx.keep x.c1, hx.keep x.c2, hx.keep x.c3, hx.keep x.c4, hx.keep x.c5, hx.keep x.c6, hx.keep x.c7⟩
theorem cell_heap {W W' : World} {b o : Nat} (h : W'.heap[b]? = W.heap[b]?) : W'.cell? ⟨b, o, none⟩ = W.cell? ⟨b, o, none⟩ := by
  simp only [World.cell?, h]
theorem PtC.frame {W W' : World} {b : Nat} {c0 c1 c2 : Value} {h n s lo hi : Int} (x : PtC W b c0 c1 c2 h n s lo hi) (hx : W'.heap[b]? = W.heap[b]?) : PtC W' b c0 c1 c2 h n s lo hi :=
  ⟨(cell_heap hx).trans x.c0, (cell_heap hx).trans x.c1, (cell_heap hx).trans x.c2, (cell_heap hx).trans x.c3, (cell_heap hx).trans x.c4, (cell_heap hx).trans x.c5, (cell_heap hx).trans x.c6, (cell_heap hx).trans x.c7⟩
theorem PtC.lt {W : World} {b : Nat} {c0 c1 c2 : Value} {h n s lo hi : Int} (x : PtC W b c0 c1 c2 h n s lo hi) : b < W.heap.size := World.block_lt_of_cell? W _ x.c0

def PV (F : Nat → Prop) (W : World) : Tr → Value → Value → Value → Prop
  | .leaf l, ch, lf, rt => lf = Vnil ∧ rt = Vnil ∧ ∃ A cap, ch = .slice A l.length cap ∧ l.length ≤ cap ∧ EnS W A l ∧ (0 < l.length → ∃ k o, A = some ⟨k, o, none⟩ ∧ F k)
  | .node a b, ch, lf, rt => ch = .slice none 0 0 ∧ ∃ p q, lf = Vp p ∧ rt = Vp q ∧
      (F p ∧ ∃ c l r, PtC W p c l r (htT a) (cnt a) (shw a) (loT a) (hiT a) ∧ PV F W a c l r) ∧
      (F q ∧ ∃ c l r, PtC W q c l r (htT b) (cnt b) (shw b) (loT b) (hiT b) ∧ PV F W b c l r)
def AtP (F : Nat → Prop) (W : World) (b : Nat) (t : Tr) : Prop := F b ∧ ∃ c l r, PtC W b c l r (htT t) (cnt t) (shw t) (loT t) (hiT t) ∧ PV F W t c l r
theorem PV.node {F : Nat → Prop} {W : World} {a b : Tr} {c l r : Value} (h : PV F W (.node a b) c l r) : c = .slice none 0 0 ∧ ∃ p q, l = Vp p ∧ r = Vp q ∧ AtP F W p a ∧ AtP F W q b := h
theorem PV.of_node {F : Nat → Prop} {W : World} {a b : Tr} {p q : Nat} (ha : AtP F W p a) (hb : AtP F W q b) : PV F W (.node a b) (.slice none 0 0) (Vp p) (Vp q) := ⟨rfl, p, q, rfl, rfl, ha, hb⟩

theorem PV.ext {F : Nat → Prop} {W W' : World} (hx : Ext W W') : ∀ {t : Tr} {c l r : Value}, PV F W t c l r → PV F W' t c l r
  | .leaf l, c, lf, rt, ⟨h1, h2, A, cap, h3, h4, h5, h6⟩ => ⟨h1, h2, A, cap, h3, h4, h5.ext hx, h6⟩
  | .node a b, c, lf, rt, ⟨h1, p, q, h2, h3, ⟨hp, ca, la, ra, xa, va⟩, hq, cb, lb, rb, xb, vb⟩ =>
    ⟨h1, p, q, h2, h3, ⟨hp, ca, la, ra, xa.ext hx, PV.ext hx va⟩, hq, cb, lb, rb, xb.ext hx, PV.ext hx vb⟩
theorem AtP.ext {F : Nat → Prop} {W W' : World} {b : Nat} {t : Tr} (h : AtP F W b t) (hx : Ext W W') : AtP F W' b t := by
  obtain ⟨h1, c, l, r, x, v⟩ := h
  exact ⟨h1, c, l, r, x.ext hx, v.ext hx⟩
theorem EnS.frame {W W' : World} {A : Option Addr} {l : List En} (h : EnS W A l) (hx : ∀ k o, A = some ⟨k, o, none⟩ → W'.heap[k]? = W.heap[k]?) : EnS W' A l := fun h0 => by
  obtain ⟨b, o, e, hc⟩ := h h0
  exact ⟨b, o, e, fun j u hu => (cell_heap (hx b o e)).trans (hc j u hu)⟩
theorem PV.frame {F : Nat → Prop} {W W' : World} (hx : ∀ b, F b → W'.heap[b]? = W.heap[b]?) : ∀ {t : Tr} {c l r : Value}, PV F W t c l r → PV F W' t c l r
  | .leaf l, c, lf, rt, ⟨h1, h2, A, cap, h3, h4, h5, h6⟩ => ⟨h1, h2, A, cap, h3, h4, by
      rcases Nat.eq_zero_or_pos l.length with h0 | h0
      · rw [List.length_eq_zero_iff.1 h0]; exact EnS.nil _ _
      · obtain ⟨k, o, e, hf⟩ := h6 h0
        refine h5.frame fun k' o' e' => ?_
        rw [e] at e'
        injection e' with e'
        injection e' with e1
        subst e1
        exact hx _ hf, h6⟩
  | .node a b, c, lf, rt, ⟨h1, p, q, h2, h3, ⟨hp, ca, la, ra, xa, va⟩, hq, cb, lb, rb, xb, vb⟩ =>
    ⟨h1, p, q, h2, h3, ⟨hp, ca, la, ra, xa.frame (hx p hp), PV.frame hx va⟩, hq, cb, lb, rb, xb.frame (hx q hq), PV.frame hx vb⟩
theorem PV.mono {F G : Nat → Prop} {W : World} (hx : ∀ b, F b → G b) : ∀ {t : Tr} {c l r : Value}, PV F W t c l r → PV G W t c l r
  | .leaf l, c, lf, rt, ⟨h1, h2, A, cap, h3, h4, h5, h6⟩ => ⟨h1, h2, A, cap, h3, h4, h5, fun h0 => by
      obtain ⟨k, o, e, hf⟩ := h6 h0
      exact ⟨k, o, e, hx _ hf⟩⟩
  | .node a b, c, lf, rt, ⟨h1, p, q, h2, h3, ⟨hp, ca, la, ra, xa, va⟩, hq, cb, lb, rb, xb, vb⟩ =>
    ⟨h1, p, q, h2, h3, ⟨hx _ hp, ca, la, ra, xa, PV.mono hx va⟩, hx _ hq, cb, lb, rb, xb, PV.mono hx vb⟩
theorem EnS.lt {W : World} {k o : Nat} {l : List En} (h : EnS W (some ⟨k, o, none⟩) l) (h0 : 0 < l.length) : k < W.heap.size := by
  obtain ⟨b, o', x, e, hx, hc⟩ := h.at (k := 0) h0
  injection e with e
  injection e with e1
  subst e1
  exact World.block_lt_of_cell? W _ hc.c0
theorem PV.lt {F : Nat → Prop} {W : World} : ∀ {t : Tr} {c l r : Value}, PV F W t c l r → PV (fun b => F b ∧ b < W.heap.size) W t c l r
  | .leaf l, c, lf, rt, ⟨h1, h2, A, cap, h3, h4, h5, h6⟩ => ⟨h1, h2, A, cap, h3, h4, h5, fun h0 => by
      obtain ⟨k, o, e, hf⟩ := h6 h0
      subst e
      exact ⟨k, o, rfl, hf, h5.lt h0⟩⟩
  | .node a b, c, lf, rt, ⟨h1, p, q, h2, h3, ⟨hp, ca, la, ra, xa, va⟩, hq, cb, lb, rb, xb, vb⟩ =>
    ⟨h1, p, q, h2, h3, ⟨⟨hp, xa.lt⟩, ca, la, ra, xa, PV.lt va⟩, ⟨hq, xb.lt⟩, cb, lb, rb, xb, PV.lt vb⟩

theorem PtC.new (W : World) (c0 c1 c2 : Value) (h n s lo hi : Int) (T : TypeId) : PtC (W.alloc (.cells #[c0, c1, c2, Vi h, Vi n, Vi s, Vq lo, Vq hi] T)) W.heap.size c0 c1 c2 h n s lo hi := by
  constructor <;> simp [go_sem]
def NewP (G : Nat → Prop) (W : World) (v : Value) (t : Tr) : Prop := ∃ r, v = Vp r ∧ AtP G W r t
theorem NewP.ext {G : Nat → Prop} {W W' : World} {v : Value} {t : Tr} (h : NewP G W v t) (hx : Ext W W') : NewP G W' v t := by
  obtain ⟨r, e, h⟩ := h
  exact ⟨r, e, h.ext hx⟩
def Up (G : Nat → Prop) (W : World) : Prop := ∀ b, W.heap.size ≤ b → G b
theorem Up.ext {G : Nat → Prop} {W W' : World} (h : Up G W) (hx : Ext W W') : Up G W' := fun b hb => h b (Nat.le_trans hx.size hb)

end Go.Proofs.Ytmpomammieenjaa

namespace Go.Proofs.Ytmpomammieenjaa
open Go.ChangeShapes Go.WideShapes Go.ChangeAt Go.RowKit Go.Sort
set_option linter.unusedVariables false
set_option linter.unusedSimpArgs false
attribute [local go_sem] World.cell?_alloc_some

inductive HT where
  | nil : HT
  | node : HT → I2 → HT → HT
def hh : HT → Nat
  | .nil => 0
  | .node l _ r => max (hh l) (hh r) + 1
def hin : HT → List I2
  | .nil => []
  | .node l a r => hin l ++ a :: hin r
theorem hh_node (l r : HT) (a : I2) : hh (.node l a r) = max (hh l) (hh r) + 1 := rfl
theorem hin_node (l r : HT) (a : I2) : hin (.node l a r) = hin l ++ a :: hin r := rfl
theorem hh_le : ∀ t : HT, hh t ≤ (hin t).length
  | .nil => Nat.le_refl _
  | .node l a r => by
    have h1 := hh_le l
    have h2 := hh_le r
    rw [hh_node, hin_node, List.length_append, List.length_cons]
    omega
theorem hh_pos {t : HT} (h : 0 < hh t) : ∃ l a r, t = .node l a r := by
  cases t with
  | nil => simp [hh] at h
  | node l a r => exact ⟨l, a, r, rfl⟩
def leanM (t : HT) (a : I2) (r : HT) : HT := match t with
  | .nil => .node .nil a r
  | .node x b y => if hh y ≤ hh x then .node x b (.node y a r) else match y with
    | .nil => .node (.node x b .nil) a r
    | .node u c z => .node (.node x b u) c (.node z a r)
def leanS (l : HT) (a : I2) (t : HT) : HT := match t with
  | .nil => .node l a .nil
  | .node x b y => if hh x ≤ hh y then .node (.node l a x) b y else match x with
    | .nil => .node l a (.node .nil b y)
    | .node u c z => .node (.node l a u) c (.node z b y)
def balH (l : HT) (a : I2) (r : HT) : HT := if hh r + 1 < hh l then leanM l a r else if hh l + 1 < hh r then leanS l a r else .node l a r
def insH : HT → I2 → HT
  | .nil, a => .node .nil a .nil
  | .node l b r, a => if ltI a b = true then balH (insH l a) b r else balH l b (insH r a)
theorem hin_leanM (t : HT) (a : I2) (r : HT) : hin (leanM t a r) = hin t ++ a :: hin r := by
  unfold leanM
  cases t with
  | nil => rfl
  | node x b y =>
    show hin (if hh y ≤ hh x then _ else _) = _
    split
    · simp [hin]
    · cases y with
      | nil => simp [hin]
      | node u c z => simp [hin]
theorem hin_leanS (l : HT) (a : I2) (t : HT) : hin (leanS l a t) = hin l ++ a :: hin t := by
  unfold leanS
  cases t with
  | nil => rfl
  | node x b y =>
    show hin (if hh x ≤ hh y then _ else _) = _
    split
    · simp [hin]
    · cases x with
      | nil => simp [hin]
      | node u c z => simp [hin]
theorem hin_bal (l : HT) (a : I2) (r : HT) : hin (balH l a r) = hin l ++ a :: hin r := by
  unfold balH
  split
  · exact hin_leanM l a r
  · split
    · exact hin_leanS l a r
    · rfl
theorem insH_mem : ∀ (t : HT) (a x : I2), x ∈ hin (insH t a) ↔ (x = a ∨ x ∈ hin t)
  | .nil, a, x => by simp [insH, hin]
  | .node l b r, a, x => by
    rw [insH]
    split
    · rw [hin_bal, hin_node, List.mem_append, List.mem_append, insH_mem l a x, or_assoc]
    · rw [hin_bal, hin_node, List.mem_append, List.mem_append, List.mem_cons, List.mem_cons, insH_mem r a x]
      constructor
      · rintro (h | h | h | h)
        · exact .inr (.inl h)
        · exact .inr (.inr (.inl h))
        · exact .inl h
        · exact .inr (.inr (.inr h))
      · rintro (h | h | h | h)
        · exact .inr (.inr (.inl h))
        · exact .inl h
        · exact .inr (.inl h)
        · exact .inr (.inr (.inr h))
theorem hin_len_bal (l : HT) (a : I2) (r : HT) : (hin (balH l a r)).length = (hin l).length + 1 + (hin r).length := by rw [hin_bal, List.length_append, List.length_cons]; omega
theorem insH_len : ∀ (t : HT) (a : I2), (hin (insH t a)).length = (hin t).length + 1
  | .nil, a => rfl
  | .node l b r, a => by
    rw [insH, hin_node, List.length_append, List.length_cons]
    split
    · rw [hin_len_bal, insH_len l a]; omega
    · rw [hin_len_bal, insH_len r a]; omega
abbrev SrtH (t : HT) : Prop := (hin t).Pairwise (fun x y => ltI x y = true)
theorem srt_parts {l r : HT} {a : I2} (h : SrtH (.node l a r)) : SrtH l ∧ SrtH r ∧ (∀ x ∈ hin l, ltI x a = true) ∧ (∀ x ∈ hin r, ltI a x = true) ∧ (∀ x ∈ hin l, ∀ y ∈ hin r, ltI x y = true) := by
  unfold SrtH at *
  rw [hin_node, List.pairwise_append, List.pairwise_cons] at h
  obtain ⟨h1, ⟨h2, h3⟩, h4⟩ := h
  exact ⟨h1, h3, fun x hx => h4 x hx a (List.mem_cons_self ..), h2, fun x hx y hy => h4 x hx y (List.mem_cons_of_mem _ hy)⟩
theorem srt_of {l r : HT} {a : I2} (h1 : SrtH l) (h2 : SrtH r) (h3 : ∀ x ∈ hin l, ltI x a = true) (h4 : ∀ x ∈ hin r, ltI a x = true) : (hin l ++ a :: hin r).Pairwise (fun x y => ltI x y = true) := by
  rw [List.pairwise_append, List.pairwise_cons]
  refine ⟨h1, ⟨h4, h2⟩, fun x hx y hy => ?_⟩
  rcases List.mem_cons.1 hy with e | hy
  · subst e; exact h3 x hx
  · exact ltI_trans (h3 x hx) (h4 y hy)
theorem insH_srt : ∀ (t : HT) (a : I2), SrtH t → a ∉ hin t → SrtH (insH t a)
  | .nil, a, _, _ => by unfold SrtH; simp [insH, hin]
  | .node l b r, a, h, hn => by
    obtain ⟨h1, h2, h3, h4, h5⟩ := srt_parts h
    rw [hin_node] at hn
    have n1 : a ∉ hin l := fun e => hn (List.mem_append_left _ e)
    have n2 : a ∉ hin r := fun e => hn (List.mem_append_right _ (List.mem_cons_of_mem _ e))
    have n3 : a ≠ b := fun e => hn (List.mem_append_right _ (by rw [e]; exact List.mem_cons_self ..))
    unfold SrtH
    rw [insH]
    split
    · rename_i hab
      rw [hin_bal]
      refine srt_of (insH_srt l a h1 n1) h2 (fun x hx => ?_) h4
      rcases (insH_mem l a x).1 hx with e | e
      · subst e; exact hab
      · exact h3 x e
    · rename_i hab
      have hba : ltI b a = true := (ltI_total n3).resolve_left hab
      rw [hin_bal]
      refine srt_of h1 (insH_srt r a h2 n2) h3 (fun x hx => ?_)
      rcases (insH_mem r a x).1 hx with e | e
      · subst e; exact hba
      · exact h4 x e
theorem find_left {l r : HT} {a x : I2} (h : SrtH (.node l a r)) (hx : ltI x a = true) : x ∈ hin (.node l a r) ↔ x ∈ hin l := by
  obtain ⟨h1, h2, h3, h4, h5⟩ := srt_parts h
  rw [hin_node, List.mem_append, List.mem_cons]
  constructor
  · rintro (e | e | e)
    · exact e
    · subst e; have := ltI_asymm hx; rw [hx] at this; cases this
    · have := ltI_asymm (h4 x e); rw [hx] at this; cases this
  · exact .inl
theorem find_right {l r : HT} {a x : I2} (h : SrtH (.node l a r)) (hx : ltI a x = true) : x ∈ hin (.node l a r) ↔ x ∈ hin r := by
  obtain ⟨h1, h2, h3, h4, h5⟩ := srt_parts h
  rw [hin_node, List.mem_append, List.mem_cons]
  constructor
  · rintro (e | e | e)
    · have := ltI_asymm (h3 x e); rw [hx] at this; cases this
    · subst e; have := ltI_asymm hx; rw [hx] at this; cases this
    · exact e
  · exact fun e => .inr (.inr e)

/-! in memory -/
structure HC (W : World) (b : Nat) (c0 c1 c2 : Value) (h : Int) : Prop where
  c0 : W.cell? ⟨b, 0, none⟩ = some c0
  c1 : W.cell? ⟨b, 1, none⟩ = some c1
  c2 : W.cell? ⟨b, 2, none⟩ = some c2
  c3 : W.cell? ⟨b, 3, none⟩ = some (Vi h)
theorem HC.ext {W W' : World} {b : Nat} {c0 c1 c2 : Value} {h : Int} (x : HC W b c0 c1 c2 h) (hx : Ext W W') : HC W' b c0 c1 c2 h := ⟨hx.keep x.c0, hx.keep x.c1, hx.keep x.c2, hx.keep x.c3⟩
theorem HC.frame {W W' : World} {b : Nat} {c0 c1 c2 : Value} {h : Int} (x : HC W b c0 c1 c2 h) (hx : W'.heap[b]? = W.heap[b]?) : HC W' b c0 c1 c2 h := ⟨(cell_heap hx).trans x.c0, (cell_heap hx).trans x.c1, (cell_heap hx).trans x.c2, (cell_heap hx).trans x.c3⟩
theorem HC.lt {W : World} {b : Nat} {c0 c1 c2 : Value} {h : Int} (x : HC W b c0 c1 c2 h) : b < W.heap.size := World.block_lt_of_cell? W _ x.c0
theorem HC.new (W : World) (c0 c1 c2 : Value) (h : Int) (T : TypeId) : HC (W.alloc (.cells #[c0, c1, c2, Vi h] T)) W.heap.size c0 c1 c2 h := by
  constructor <;> simp [go_sem]
def HV (F : Nat → Prop) (W : World) (ad : I2 → Nat) : HT → Value → Prop
  | .nil, v => v = Vnil
  | .node l a r, v => ∃ b, v = Vp b ∧ F b ∧ ∃ vl vr, HC W b (Vp (ad a)) vl vr ((max (hh l) (hh r) + 1 : Nat) : Int) ∧ HV F W ad l vl ∧ HV F W ad r vr
theorem HV.ext {F : Nat → Prop} {W W' : World} {ad : I2 → Nat} (hx : Ext W W') : ∀ {t : HT} {v : Value}, HV F W ad t v → HV F W' ad t v
  | .nil, v, h => h
  | .node l a r, v, ⟨b, e, hf, vl, vr, hc, hl, hr⟩ => ⟨b, e, hf, vl, vr, hc.ext hx, HV.ext hx hl, HV.ext hx hr⟩
theorem HV.frame {F : Nat → Prop} {W W' : World} {ad : I2 → Nat} (hx : ∀ b, F b → W'.heap[b]? = W.heap[b]?) : ∀ {t : HT} {v : Value}, HV F W ad t v → HV F W' ad t v
  | .nil, v, h => h
  | .node l a r, v, ⟨b, e, hf, vl, vr, hc, hl, hr⟩ => ⟨b, e, hf, vl, vr, hc.frame (hx b hf), HV.frame hx hl, HV.frame hx hr⟩
theorem HV.mono {F G : Nat → Prop} {W : World} {ad : I2 → Nat} (hx : ∀ b, F b → G b) : ∀ {t : HT} {v : Value}, HV F W ad t v → HV G W ad t v
  | .nil, v, h => h
  | .node l a r, v, ⟨b, e, hf, vl, vr, hc, hl, hr⟩ => ⟨b, e, hx b hf, vl, vr, hc, HV.mono hx hl, HV.mono hx hr⟩
theorem HV.lt {F : Nat → Prop} {W : World} {ad : I2 → Nat} : ∀ {t : HT} {v : Value}, HV F W ad t v → HV (fun b => F b ∧ b < W.heap.size) W ad t v
  | .nil, v, h => h
  | .node l a r, v, ⟨b, e, hf, vl, vr, hc, hl, hr⟩ => ⟨b, e, ⟨hf, hc.lt⟩, vl, vr, hc, HV.lt hl, HV.lt hr⟩
theorem HV.same {F : Nat → Prop} {W : World} {ad ad' : I2 → Nat} : ∀ {t : HT} {v : Value}, (∀ a ∈ hin t, ad' a = ad a) → HV F W ad t v → HV F W ad' t v
  | .nil, v, _, h => h
  | .node l a r, v, hs, ⟨b, e, hf, vl, vr, hc, hl, hr⟩ => ⟨b, e, hf, vl, vr, by rw [hs a (List.mem_append_right _ (List.mem_cons_self ..))]; exact hc,
      HV.same (fun x hx => hs x (List.mem_append_left _ hx)) hl, HV.same (fun x hx => hs x (List.mem_append_right _ (List.mem_cons_of_mem _ hx))) hr⟩
def RetHt (G : Nat → Prop) (ad : I2 → Nat) (w : World) (t : HT) (e : Ending) (w' : World) : Prop := ∃ v, e = .returned v ∧ HV G w' ad t v ∧ Ext w w'
def NdIds (W : World) (ad : I2 → Nat) (l : List I2) : Prop := ∀ a ∈ l, W.cell? ⟨ad a, 0, none⟩ = some (Vu a.1) ∧ W.cell? ⟨ad a, 1, none⟩ = some (Vu a.2)
theorem NdIds.ext {W W' : World} {ad : I2 → Nat} {l : List I2} (h : NdIds W ad l) (hx : Ext W W') : NdIds W' ad l := fun a ha => ⟨hx.keep (h a ha).1, hx.keep (h a ha).2⟩

theorem cmp3 (a b c d : Int) : (cmpId a b c d = -1 ∧ ltI (a, b) (c, d) = true) ∨ (cmpId a b c d = 0 ∧ a = c ∧ b = d) ∨ (cmpId a b c d = 1 ∧ ltI (c, d) (a, b) = true) := by
  unfold cmpId cmpI
  simp only [ltI_iff]
  by_cases h : a = c
  · subst h
    rw [if_pos rfl]
    by_cases h1 : b < d
    · rw [if_pos h1]; exact .inl ⟨rfl, .inr ⟨rfl, h1⟩⟩
    · rw [if_neg h1]
      by_cases h2 : d < b
      · rw [if_pos h2]; exact .inr (.inr ⟨rfl, .inr ⟨rfl, h2⟩⟩)
      · rw [if_neg h2]; exact .inr (.inl ⟨rfl, rfl, by omega⟩)
  · rw [if_neg h]
    by_cases h1 : a < c
    · rw [if_pos h1]; exact .inl ⟨rfl, .inl h1⟩
    · rw [if_neg h1]
      by_cases h2 : c < a
      · rw [if_pos h2]; exact .inr (.inr ⟨rfl, .inl h2⟩)
      · omega
theorem cmp_lit {a b c d s : Int} (h : cmpId a b c d = s) (w : World) : Calls Try.prog 53 #[idv a b, idv c d] w fun e w' => e = .returned (Vi s) ∧ Ext w w' := by rw [← h]; exact cmp_any _ _ _ _ _

theorem high_any {F : Nat → Prop} {ad : I2 → Nat} (t : HT) (v : Value) (w : World) (h : HV F w ad t v) : Calls Try.prog 88 #[v] w fun e w' => e = .returned (Vi (hh t : Nat)) ∧ w = w' := by
  cases t with
  | nil =>
    have h : v = Vnil := h
    subst h
    go_enter Try.func88, Try.ntmps88
    go_wp2
    go_ret
    exact ⟨rfl, rfl⟩
  | node l a r =>
    obtain ⟨b, rfl, hf, vl, vr, ⟨c0, c1, c2, c3⟩, _, _⟩ := h
    rw [hh_node]
    generalize max (hh l) (hh r) + 1 = n at *
    go_enter Try.func88, Try.ntmps88
    go_wp2
    go_ret
    exact ⟨rfl, rfl⟩

def fdV (ad : I2 → Nat) (t : HT) (a : I2) : Value := if a ∈ hin t then Vp (ad a) else Vnil
set_option maxRecDepth 100000 in
set_option maxHeartbeats 4000000 in
theorem findH_any {F : Nat → Prop} {ad : I2 → Nat} (t : HT) (v : Value) (c k : Int) (w : World) (h : HV F w ad t v) (hi : NdIds w ad (hin t)) (hs : SrtH t) :
    Calls Try.prog 30 #[v, idv c k] w fun e w' => e = .returned (fdV ad t (c, k)) ∧ Ext w w' := by
  obtain ⟨R, hR⟩ : ∃ R, fdV ad t (c, k) = R := ⟨_, rfl⟩
  rw [hR]
  replace hR := Lib.hid hR
  have hi0 := Lib.hid hi
  have h0 := Lib.hid h
  have hs0 := Lib.hid hs
  clear h hs hi
  go_enter Try.func30, Try.ntmps30
  go_wp2
  have x0 : Ext w (w.alloc (.cells #[.int .u32 c, .int .u32 k] 41)) := (Ext.refl _).alloc _
  have a0 : (w.alloc (.cells #[.int .u32 c, .int .u32 k] 41)).cell? ⟨w.heap.size, 0, none⟩ = some (Vu c) := by simp [go_sem]
  have a1 : (w.alloc (.cells #[.int .u32 c, .int .u32 k] 41)).cell? ⟨w.heap.size, 1, none⟩ = some (Vu k) := by simp [go_sem]
  generalize w.alloc (.cells #[.int .u32 c, .int .u32 k] 41) = w0 at *
  generalize w.heap.size = pa at *
  go_loopg [0] (hin t).length (fun kx s0 wr => ∃ (u : HT) (v0 : Value), s0 = v0 ∧ Hid (HV F wr ad u v0 ∧ SrtH u ∧ (∀ x ∈ hin u, x ∈ hin t) ∧ ((c, k) ∈ hin u ↔ (c, k) ∈ hin t)) ∧ (hin u).length ≤ kx ∧ Ext w0 wr)
  case atStart => exact ⟨t, v, rfl, Lib.hid ⟨h0.out.ext x0, hs0.out, fun _ h => h, Iff.rfl⟩, Nat.le_refl _, Ext.refl _⟩
  case round =>
    obtain ⟨u, v0, e0, hu, hk, hx⟩ := hrel
    cases u with
    | nil =>
      obtain ⟨e, _, _, hm⟩ := hu.out
      have e : v0 = Vnil := e
      subst e
      subst e0
      have hr := Lib.hid (show R = Vnil by
        rw [← hR.out]
        unfold fdV
        rw [if_neg (fun e => by have := hm.2 e; simp [hin] at this)])
      go_wp2
      go_ret
      exact ⟨by rw [hr.out]; rfl, x0.trans hx⟩
    | node l b r =>
      obtain ⟨⟨bb, e, hf, vl, vr, hc, hl, hrr⟩, hs, hsub, hm⟩ := hu.out
      subst e
      subst e0
      have hx1 : Ext w0 wr.drew := hx.drew
      have hd1 : Ext wr wr.drew := (Ext.refl _).drew
      obtain ⟨c0, c1, c2, c3⟩ := hc.ext hd1
      have hb := hsub b (List.mem_append_right _ (List.mem_cons_self ..))
      obtain ⟨i0, i1⟩ := hi0.out b hb
      replace i0 := hx1.keep (x0.keep i0)
      replace i1 := hx1.keep (x0.keep i1)
      replace a0 := hx1.keep a0
      replace a1 := hx1.keep a1
      have hl' := hl.ext hd1
      have hr' := hrr.ext hd1
      obtain ⟨b1, b2⟩ := b
      simp only at i0 i1
      obtain ⟨nb, hnb⟩ : ∃ nb, ad (b1, b2) = nb := ⟨_, rfl⟩
      rw [hnb] at i0 i1 c0
      have i0' := i0
      have i1' := i1
      replace hnb := Lib.hid hnb
      rcases cmp3 c k b1 b2 with ⟨hcm, ho⟩ | ⟨hcm, rfl, rfl⟩ | ⟨hcm, ho⟩
      · have hcall := Lib.hid (fun W => cmp_lit hcm W)
        have hm2 := Lib.hid (hm.symm.trans (find_left hs ho))
        have hs2 := Lib.hid (srt_parts hs).1
        have hk2 : (hin l).length < gk := by rw [hin_node, List.length_append, List.length_cons] at hk; omega
        have hl2 := Lib.hid hl'
        have hsub2 := Lib.hid (fun x (hx : x ∈ hin l) => hsub x (List.mem_append_left _ hx))
        clear hcm ho hm hs hc hl hrr hl' hr' hsub hb hu hk hd1 i0' i1'
        go_wp2
        refine wp_region_still_tail 9 (by kernel_rfl) (by kernel_rfl) ?_
        simp only [List.take_succ_cons, List.take_zero, List.drop_succ_cons, List.drop_zero]
        change wpStill Try.prog _ wr.drew (fun a' => wpList Try.prog _ _ _ a' wr.drew) _ _
        generalize wr.drew = w2 at *
        repeat still_step
        refine wpStill_nil ?_
        go_wp2_with fail
        refine (hcall.out _).mono ?_
        rintro e w3 ⟨rfl, x3⟩
        replace c0 := x3.keep c0
        replace c1 := x3.keep c1
        replace c2 := x3.keep c2
        go_wp2
        go_roundg (hin l).length
        case measure => exact hk2
        case rel => exact ⟨l, vl, rfl, Lib.hid ⟨hl2.out.ext x3, hs2.out, hsub2.out, hm2.out.symm⟩, Nat.le_refl _, hx1.trans x3⟩
      · have hcall := Lib.hid (fun W => cmp_lit hcm W)
        have hr2 := Lib.hid (show R = Vp nb by
          rw [← hR.out]
          unfold fdV
          rw [if_pos hb, hnb.out])
        clear hcm hm hs hc hl hrr hl' hr' hsub hb hu hk hd1 i0' i1'
        go_wp2
        refine wp_region_still_tail 9 (by kernel_rfl) (by kernel_rfl) ?_
        simp only [List.take_succ_cons, List.take_zero, List.drop_succ_cons, List.drop_zero]
        change wpStill Try.prog _ wr.drew (fun a' => wpList Try.prog _ _ _ a' wr.drew) _ _
        generalize wr.drew = w2 at *
        repeat still_step
        refine wpStill_nil ?_
        go_wp2_with fail
        refine (hcall.out _).mono ?_
        rintro e w3 ⟨rfl, x3⟩
        replace c0 := x3.keep c0
        replace c1 := x3.keep c1
        replace c2 := x3.keep c2
        go_wp2
        go_ret
        exact ⟨by rw [hr2.out]; rfl, (x0.trans hx1).trans x3⟩
      · have hcall := Lib.hid (fun W => cmp_lit hcm W)
        have hm2 := Lib.hid (hm.symm.trans (find_right hs ho))
        have hs2 := Lib.hid (srt_parts hs).2.1
        have hk2 : (hin r).length < gk := by rw [hin_node, List.length_append, List.length_cons] at hk; omega
        have hl2 := Lib.hid hr'
        have hsub2 := Lib.hid (fun x (hx : x ∈ hin r) => hsub x (List.mem_append_right _ (List.mem_cons_of_mem _ hx)))
        clear hcm ho hm hs hc hl hrr hl' hr' hsub hb hu hk hd1 i0' i1'
        go_wp2
        refine wp_region_still_tail 9 (by kernel_rfl) (by kernel_rfl) ?_
        simp only [List.take_succ_cons, List.take_zero, List.drop_succ_cons, List.drop_zero]
        change wpStill Try.prog _ wr.drew (fun a' => wpList Try.prog _ _ _ a' wr.drew) _ _
        generalize wr.drew = w2 at *
        repeat still_step
        refine wpStill_nil ?_
        go_wp2_with fail
        refine (hcall.out _).mono ?_
        rintro e w3 ⟨rfl, x3⟩
        replace c0 := x3.keep c0
        replace c1 := x3.keep c1
        replace c2 := x3.keep c2
        go_wp2
        go_roundg (hin r).length
        case measure => exact hk2
        case rel => exact ⟨r, vr, rfl, Lib.hid ⟨hl2.out.ext x3, hs2.out, hsub2.out, hm2.out.symm⟩, Nat.le_refl _, hx1.trans x3⟩
end Go.Proofs.Ytmpomammieenjaa
