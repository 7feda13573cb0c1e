/-
  Several texts of this seat in one file, each in the namespace again; no claim stands here.
-/
import Derived.Test.YthpminlfbjedpaaDoorRows
import Derived.WalkKit
import Derived.ProofKit
import Derived.OpenShut
import Derived.Lib.SmallJoins
import Derived.Lib.Hide
import Derived.Lib.QuietBelow
import Derived.BigQuiet
import Derived.LaidEql
import Derived.Deep.RegionHeld
import Derived.Shelf.Unicode.DecodeSlow
import Derived.Lib.ValidAsc
import Derived.Test.YthpminlfbjedpaaDoorCards
import Derived.Test.YthpminlfbjedpaaDoorTie
import Derived.Lib.LaidU8T
import Derived.Deep.DeepHandedRow
import Derived.Deep.SlicePairs
import Derived.Lay
import Derived.ChangeMaps5
import Derived.MakeChecks
import Derived.Maps.AppendAt
import Derived.Deep.AppendLies
import Derived.OwnWalk
import Derived.Laws.OwnMore
import Derived.Laws.MakeOwn
import Derived.Laws.IdiomStrings
import Derived.Lib.AppendStr
import Derived.Lib.BufferRead
import Derived.Deep.QuietTactic
import Derived.Deep.LoopGhost
import Derived.RegionTactic
import Derived.IntWalk
import Derived.Deep.RegionWith
import Derived.ChangeSame
import Derived.Lib.Endian
import Derived.Lib.EndianBits
import Derived.Laws.BitsAllLaws
import Derived.Test.YthpminlfbjedpaaDoorWMath
import Derived.Test.YthpminlfbjedpaaDoorNMath
import Derived.Test.YthpminlfbjedpaaDoorRMath
namespace Go.Proofs.YthpminlfbjedpaaDoor
open Go.ChangeShapes Go.WideShapes Go.ChangeAt Go.RowKit Go.Sort
set_option linter.unusedVariables false

/-- nothing that was there has turned -/
def Ext (w w' : World) : Prop := Below w.heap.size w w'

theorem Ext.refl (w : World) : Ext w w := Below.refl _ _
theorem Ext.size {a b : World} (h : Ext a b) : a.heap.size ≤ b.heap.size := RowKit.Below.size h
theorem Ext.trans {a b c : World} (h : Ext a b) (k : Ext b c) : Ext a c := Below.trans h (Below.mono k h.size)
theorem Ext.alloc {a w : World} (h : Ext a w) (o : Obj) : Ext a (w.alloc o) := Below.alloc h h.size o
theorem Ext.drew {a w : World} (h : Ext a w) : Ext a w.drew := Below.drew h
theorem Ext.drewN {a w : World} (h : Ext a w) (n : Nat) : Ext a (w.drewN n) := ⟨RowKit.Below.os (w' := w) h, RowKit.Below.tape (w' := w) h, RowKit.Below.output (w' := w) h, RowKit.Below.size (w' := w) h, RowKit.Below.block (w' := w) h⟩
theorem Ext.setCell {a w : World} (h : Ext a w) {p : Addr} (hp : a.heap.size ≤ p.block) (u : Value) : Ext a (w.setCell p u) := Below.setCell h hp u
theorem Ext.cells {W w1 : World} (hb : Ext W w1) : (∀ b o, b < W.heap.size → w1.cell? ⟨b, o, none⟩ = W.cell? ⟨b, o, none⟩) ∧ (∀ b o, b < W.heap.size → w1.frozen? ⟨b, o, none⟩ = W.frozen? ⟨b, o, none⟩) :=
  ⟨fun b o h => RowKit.Below.cell (p := ⟨b, o, none⟩) hb h, fun b o h => RowKit.Below.frozen (p := ⟨b, o, none⟩) hb h⟩

theorem Ext.keep {W w1 : World} (h : Ext W w1) {p : Addr} {v : Value} (hc : W.cell? p = some v) : w1.cell? p = some v := by
  rw [RowKit.Below.cell h (World.block_lt_of_cell? W p hc)]; exact hc
theorem Ext.thaw {W w1 : World} (h : Ext W w1) {p : Addr} {v : Value} (hc : W.cell? p = some v) (hf : W.frozen? p = false) : w1.frozen? p = false := by
  rw [RowKit.Below.frozen h (World.block_lt_of_cell? W p hc)]; exact hf
theorem Ext.lt {W w1 : World} (h : Ext W w1) {n : Nat} (hn : n < W.heap.size) : n < w1.heap.size := Nat.lt_of_lt_of_le hn h.size

theorem Calls.in_regrown {P : Program} {f : FuncId} {args : Array Value} {w : World} {d : Nat} {os : Array Obj} {v : Value}
    (h : Calls P f args (grow (redrawn w d) os) fun e w' => e = .returned v ∧ Ext (grow (redrawn w d) os) w') : Calls P f args (grow (redrawn w d) os) fun e w'' => e = .returned v ∧ ∃ p : Regrown, w'' = grow (redrawn w p.d) p.os := Calls.regrown_of h
theorem Calls.same_regrown {P : Program} {f : FuncId} {args : Array Value} {w : World} {d : Nat} {os : Array Obj} {v : Value}
    (h : Calls P f args (grow (redrawn w d) os) fun e w' => e = .returned v ∧ grow (redrawn w d) os = w') : Calls P f args (grow (redrawn w d) os) fun e w'' => e = .returned v ∧ ∃ p : Regrown, w'' = grow (redrawn w p.d) p.os :=
  Calls.in_regrown (h.mono fun e w' hh => ⟨hh.1, by rw [← hh.2]; exact Ext.refl _⟩)
theorem Ext.regrown (w : World) (d : Nat) (os : Array Obj) : Ext w (grow (redrawn w d) os) := below_regrown w d os

abbrev Vu (n : Int) : Value := .int .u32 n
abbrev Vi (n : Int) : Value := .int .i64 n
abbrev idv (a b : Int) : Value := .agg #[.int .u32 a, .int .u32 b]
theorem ret_i64 {a b : Int} (h : a = b) : Ending.returned (.int .i64 a) = .returned (.int .i64 b) := by rw [h]
theorem ret_u32 {a b : Int} (h : a = b) : Ending.returned (.int .u32 a) = .returned (.int .u32 b) := by rw [h]
theorem ret_bool {a b : Bool} (h : a = b) : Ending.returned (.bool a) = .returned (.bool b) := by rw [h]
theorem ret_ib {a a' : Int} {b b' : Bool} (h : a = a') (g : b = b') : Ending.returned (.tuple #[.int .i64 a, .bool b]) = .returned (.tuple #[.int .i64 a', .bool b']) := by rw [h, g]

/-- arguments read as they did, all of them -/
theorem reads_on {H : Type} {enc : TypeId × Value → H} {P : Program} (hl : laidOutB P = true) {W W' : World} (hx : Ext W W') : ∀ (ts : List TypeId) (vs : List Value) (ds : List (DataW H)) (ps : List MemPlace),
    (∀ t ∈ ts, P.readableRec t = true ∧ t < P.types.size) → DataW.TrodAll enc P W 0 (fun _ => true) true ts vs ds ps → (∀ x ∈ ps, x.block < W.heap.size) → DataW.TrodAll enc P W' 0 (fun b => decide (b < W.heap.size)) true ts vs ds ps := by
  intro ts
  induction ts with
  | nil => intro vs ds ps _ h _; cases vs <;> cases ds <;> first | exact h | exact h.elim
  | cons t ts ih =>
    intro vs ds ps ht h hp
    cases vs with
    | nil => exact h.elim
    | cons v vs =>
      cases ds with
      | nil => exact h.elim
      | cons d ds =>
        obtain ⟨p, q, h1, h2, rfl⟩ := h
        have t1 := ht t (List.mem_cons_self ..)
        exact ⟨p, q, RowKit.Below.trod hl t1.1 t1.2 h1 hx (fun x hx' => hp x (List.mem_append_left _ hx')), ih vs ds q (fun t' ht' => ht t' (List.mem_cons_of_mem _ ht')) h2 (fun x hx' => hp x (List.mem_append_right _ hx')), rfl⟩

/-- a law's last step: it answered true, and nothing that was there has turned -/
theorem law_post {H : Type} {enc : TypeId × Value → H} {P : Program} {f : Func} {s : ChangeSpec} {W W' : World} {args : Array Value} {ds gs : List (DataW H)} {before : List MemPlace} {tb : TypeId}
    (hW : DataW.Whole enc P f.params.toList s.vars false W args.toList ds gs before) (hl : laidOutB P = true) (hts : ∀ t ∈ f.params.toList, P.readableRec t = true ∧ t < P.types.size)
    (hvars : s.vars = []) (hr : (s.fn H (ds ++ gs)).results = [.lit (.bool true)]) (ha : (s.fn H (ds ++ gs)).args = ds) (hv : (s.fn H (ds ++ gs)).vars = []) (hx : Ext W W')
    (hres : f.resultTypes = #[tb]) (hb : P.underlying tb = some .bool) : s.post enc P f false true false false W args (.bool true) W' := by
  have hlt : ∀ p ∈ before, p.block < W.heap.size := fun p hp => hW.lt p hp
  have hW' := hW
  obtain ⟨p, q, hA, hV, hpq, _, _⟩ := hW
  have hq : q = [] := by
    rw [hvars] at hV
    cases gs with
    | nil => exact hV
    | cons g gs => exact hV.elim
  subst hq
  rw [List.append_nil] at hpq
  subst hpq
  refine ⟨ds, gs, before, [], before, [], hW', ?_, ?_, ?_, ?_, fun h => by cases h⟩
  · rw [hr, hres]; exact trodAll_mk1 (shut_bool hb true)
  · rw [ha]; exact reads_on hl hx _ _ _ _ hts hA hlt
  · rw [hv, hvars]; rfl
  · exact World.keptBut_mono (fun p hp => ⟨hp, .inr (.inl hp)⟩) (RowKit.Below.frame hx (· ∈ before))

theorem own : ownKnob Tryd.prog.godebug = Option.none := by kernel_rfl
theorem laid : laidOutB Tryd.prog = true := by kernel_rfl

theorem bounds_u32 {a : Int} (h : (Lit.int .u32 a).wf = true) : 0 ≤ a ∧ a ≤ 4294967295 := by
  simpa [Lit.wf, IntKind.min, IntKind.max, IntKind.signed, IntKind.bits] using h
theorem bounds_i64 {a : Int} (h : (Lit.int .i64 a).wf = true) : -9223372036854775808 ≤ a ∧ a ≤ 9223372036854775807 := by
  simpa [Lit.wf, IntKind.min, IntKind.max, IntKind.signed, IntKind.bits] using h

end Go.Proofs.YthpminlfbjedpaaDoor

namespace Go.Proofs.YthpminlfbjedpaaDoor
open Go.ChangeShapes Go.WideShapes Go.ChangeAt Go.RowKit Go.Sort
set_option linter.unusedVariables false

/-- the two tables of utf8 lie where they are -/
def Tabs (w : World) : Prop := Lib.Utf8Tabs 0 1 w
theorem Tabs.ext {w w' : World} (h : Tabs w) (hx : Ext w w') : Tabs w' := Utf8Tabs_below h hx

end Go.Proofs.YthpminlfbjedpaaDoor

namespace Go.Proofs.YthpminlfbjedpaaDoor
open Go.ChangeShapes Go.WideShapes Go.ChangeAt Go.RowKit Go.Sort
set_option linter.unusedVariables false

/-- the tables that the rows list -/
def laidTabs : List (String × DataW Unit) := [("unicode/utf8.acceptRanges", Rows.laid_unicode_utf8_acceptRanges), ("unicode/utf8.first", Rows.laid_unicode_utf8_first)]
def renU : Go.Shelf.Ren := ⟨fun n => n, fun | 119 => 105 | 138 => 107 | 139 => 108 | 5 => 5 | n => n, fun | 3 => 0 | 4 => 1 | n => n⟩
theorem typesU : U8Types Tryd.prog renU := ⟨Tryd.underlying5, Tryd.underlying105, Tryd.underlying107, Tryd.underlying108⟩
theorem extraU : U8Extra Tryd.prog renU := ⟨by kernel_rfl, by kernel_rfl, by kernel_rfl, by kernel_rfl, by kernel_rfl, by kernel_rfl, by kernel_rfl⟩
theorem firstU : Rows.laid_unicode_utf8_first = Lib.firstData := by kernel_rfl
theorem acceptU : Rows.laid_unicode_utf8_acceptRanges = Lib.acceptData := by kernel_rfl
theorem tabs_of {W : World} (h : laidMet Tryd.prog laidTabs W) : Tabs W :=
  utf8Tabs_of_readsT typesU extraU (firstU ▸ Lib.laidMet.reads h (.tail _ (.head _))) (acceptU ▸ Lib.laidMet.reads h (.head _))

/-- a world for the witness, the tables laid -/
noncomputable def laidWorld (os : Os) : World := World.laidAll Tryd.prog os laidTabs
theorem laid_met (os : Os) (args : Array Value) : laidMet Tryd.prog laidTabs ((laidWorld os).forCall (fun _ _ => 0) ⟨#[], args, []⟩).memory := laidMet_laidAll _ (by kernel_rfl) (by kernel_rfl)

end Go.Proofs.YthpminlfbjedpaaDoor

namespace Go.Proofs.YthpminlfbjedpaaDoor
open Go.ChangeShapes Go.WideShapes Go.ChangeAt Go.RowKit Go.Sort
set_option linter.unusedVariables false

theorem add_at (b o n : Nat) : (⟨b, o, none⟩ : Addr).add n = ⟨b, o + n, none⟩ := by unfold Addr.add; split <;> simp_all

/-- from that address on lie these cells -/
def Row (w : World) (A : Option Addr) (xs : List Value) : Prop :=
  0 < xs.length → ∃ b o, A = some ⟨b, o, none⟩ ∧ ∀ (j : Nat) (u : Value), xs[j]? = some u → w.cell? ⟨b, o + j, none⟩ = some u

theorem Row.nil (w : World) (A : Option Addr) : Row w A [] := fun h => absurd h (by simp)
theorem Row.ext {w w' : World} {A : Option Addr} {xs : List Value} (h : Row w A xs) (hx : Ext w w') : Row w' A xs := fun h0 => by
  obtain ⟨b, o, e, hc⟩ := h h0
  exact ⟨b, o, e, fun j u hu => hx.keep (hc j u hu)⟩
theorem Row.take {w : World} {A : Option Addr} {xs : List Value} (h : Row w A xs) (k : Nat) : Row w A (xs.take k) := fun h0 => by
  obtain ⟨b, o, e, hc⟩ := h (by simp at h0; omega)
  refine ⟨b, o, e, fun j u hu => hc j u ?_⟩
  rw [List.getElem?_take] at hu
  split at hu
  · exact hu
  · cases hu
theorem Row.drop {w : World} {b o : Nat} {xs : List Value} (h : Row w (some ⟨b, o, none⟩) xs) (k : Nat) : Row w (some ⟨b, o + k, none⟩) (xs.drop k) := fun h0 => by
  obtain ⟨b', o', e, hc⟩ := h (by simp at h0; omega)
  injection e with e
  injection e with e1 e2 e3
  subst e1
  subst e2
  refine ⟨_, _, rfl, fun j u hu => ?_⟩
  rw [List.getElem?_drop] at hu
  rw [Nat.add_assoc]
  exact hc _ u hu
theorem Row.own {w : World} {base : Nat} {e : TypeId} {size : Nat} {A : Option Addr} {n c : Nat} {xs : List Value} (h : w.ownsRow base e size (.slice A n c) n xs) : Row w A xs := fun h0 => by
  have hn : 0 < n := by
    rcases Nat.eq_zero_or_pos n with h1 | h1
    · subst h1; have := h.1; omega
    · exact h1
  obtain ⟨g, cap, hv, _, hlt⟩ := h.form hn
  have hA : A = some ⟨g, 0, none⟩ := by injection hv
  subst hA
  refine ⟨g, 0, rfl, fun j u hu => ?_⟩
  rw [← add_at]
  exact h.cells (g := g) rfl j u hu

/-- elements of some cells each, one behind the other -/
def flat {α : Type} (enc : α → List Value) (l : List α) : List Value := l.flatMap enc
theorem flat_nil {α : Type} (enc : α → List Value) : flat enc [] = [] := rfl
theorem flat_cons {α : Type} (enc : α → List Value) (a : α) (l : List α) : flat enc (a :: l) = enc a ++ flat enc l := by simp [flat]
theorem flat_append {α : Type} (enc : α → List Value) (l m : List α) : flat enc (l ++ m) = flat enc l ++ flat enc m := by simp [flat]
theorem flat_one {α : Type} (enc : α → List Value) (a : α) : flat enc [a] = enc a := by simp [flat]
section
variable {α : Type} {enc : α → List Value} {s : Nat}
theorem flat_len (hs : ∀ a, (enc a).length = s) : ∀ l : List α, (flat enc l).length = l.length * s
  | [] => by simp [flat]
  | a :: l => by rw [flat_cons, List.length_append, hs, flat_len hs l, List.length_cons, Nat.succ_mul, Nat.add_comm]
theorem flat_at (hs : ∀ a, (enc a).length = s) : ∀ {l : List α} {k : Nat} {a : α} {j : Nat}, l[k]? = some a → j < s → (flat enc l)[k * s + j]? = (enc a)[j]?
  | [], k, a, j, h, _ => by simp at h
  | x :: l, 0, a, j, h, hj => by
    have e : x = a := by simpa using h
    subst e
    rw [flat_cons, Nat.zero_mul, Nat.zero_add, List.getElem?_append_left (by rw [hs]; exact hj)]
  | x :: l, k + 1, a, j, h, hj => by
    rw [flat_cons, List.getElem?_append_right (by rw [hs, Nat.succ_mul]; omega), hs, show (k + 1) * s + j - s = k * s + j by rw [Nat.succ_mul]; omega]
    exact flat_at hs (by simpa using h) hj
theorem flat_take (hs : ∀ a, (enc a).length = s) : ∀ (l : List α) (k : Nat), flat enc (l.take k) = (flat enc l).take (k * s)
  | [], k => by simp [flat]
  | x :: l, 0 => by simp [flat]
  | x :: l, k + 1 => by
    rw [List.take_succ_cons, flat_cons, flat_cons, flat_take hs l k, List.take_append, hs, show (k + 1) * s - s = k * s by rw [Nat.succ_mul]; omega, List.take_of_length_le (l := enc x) (by rw [hs, Nat.succ_mul]; omega)]
theorem flat_drop (hs : ∀ a, (enc a).length = s) : ∀ (l : List α) (k : Nat), flat enc (l.drop k) = (flat enc l).drop (k * s)
  | [], k => by simp [flat]
  | x :: l, 0 => by simp [flat]
  | x :: l, k + 1 => by
    rw [List.drop_succ_cons, flat_cons, flat_drop hs l k, List.drop_append, hs, show (k + 1) * s - s = k * s by rw [Nat.succ_mul]; omega, show (enc x).drop ((k + 1) * s) = [] from List.drop_eq_nil_of_le (by rw [hs, Nat.succ_mul]; omega), List.nil_append]
theorem flat_one_cell (h1 : ∀ a, ∀ u ∈ enc a, u.oneCell' = true) (l : List α) : ∀ u ∈ flat enc l, u.oneCell' = true := fun u hu => by
  obtain ⟨a, _, h⟩ := List.mem_flatMap.1 hu
  exact h1 a u h
/-- the cell of an element's field -/
theorem Row.at {w : World} {A : Option Addr} {l : List α} (h : Row w A (flat enc l)) (hs : ∀ a, (enc a).length = s) {k : Nat} {a : α} (hk : l[k]? = some a) (h0 : 0 < s) :
    ∃ b o, A = some ⟨b, o, none⟩ ∧ ∀ j u, (enc a)[j]? = some u → w.cell? ⟨b, o + (k * s + j), none⟩ = some u := by
  have hkl : k < l.length := by
    rcases Nat.lt_or_ge k l.length with g | g
    · exact g
    · rw [List.getElem?_eq_none g] at hk; cases hk
  obtain ⟨b, o, e, hc⟩ := h (by rw [flat_len hs]; exact Nat.mul_pos (by omega) h0)
  refine ⟨b, o, e, fun j u hu => hc _ u ?_⟩
  have hj : j < s := by
    rcases Nat.lt_or_ge j s with g | g
    · exact g
    · rw [List.getElem?_eq_none (by rw [hs]; exact g)] at hu; cases hu
  rw [flat_at hs hk hj]; exact hu
end

/-- nothing has turned but one block of the call's own and new ones -/
theorem Ext.grown {a w w' : World} {v : Value} (h : Ext a w) (hg : w.grownBy w' v.ownBlock) (hv : ∀ k, v.ownBlock = some k → a.heap.size ≤ k) : Ext a w' := RowKit.Below.grown h hg h.size hv

theorem run_append_row {P : Program} (w : World) (base : Nat) (t ty e : TypeId) (i : TypeInfo) (z : Value) (size bytes : Nat) (ht : P.underlying t = some (.slice e)) (hi : P.info? e = some i) (hz : i.zero = some z)
    (hsize : i.size = size) (hby : i.bytes = bytes) (hzs : z.cells.size = size) (hsz : 0 < size)
    (v : Value) (n : Nat) (xs : List Value) (hown : w.ownsRow base e size v n xs)
    (A : Option Addr) (m c : Nat) (news : List Value) (hl : news.length = m * size) (hr : Row w A news) (h1 : ∀ u ∈ news, u.oneCell' = true)
    (h63 : n + m ≤ maxLen) (hbytes : (n + m) * bytes ≤ 140737488355328) (hbase : base ≤ w.heap.size) :
    ∃ v' w', (Builtin.append_ #[t, t] ty #[v, .slice A m c]).run P w = .ok v' w' ∧ w'.ownsRow base e size v' (n + m) (xs ++ news) ∧ w.grownBy w' v.ownBlock := by
  cases A with
  | none =>
    have h0 : news = [] := by
      cases news with
      | nil => rfl
      | cons u us => obtain ⟨b, o, e, _⟩ := hr (by simp); cases e
    subst h0
    have hm : m = 0 := by
      have := hl
      simp only [List.length_nil] at this
      rcases Nat.mul_eq_zero.1 this.symm with h | h
      · exact h
      · omega
    subst hm
    refine ⟨v, w, ?_, by simpa using hown, ⟨rfl, rfl, rfl, Nat.le_refl _, fun _ _ _ => rfl⟩⟩
    rcases hown.2 with ⟨rfl, rfl⟩ | ⟨g, cap, cur, rfl, _, _, hnc, _⟩
    · simp [Builtin.append_, run_underlying ht, sizeOf, typeInfo, hi, Builtin.lenOf, Builtin.firstCells]
    · simp [Builtin.append_, run_underlying ht, sizeOf, typeInfo, hi, Builtin.lenOf, Builtin.firstCells, hnc, storeCells]
  | some ad =>
    obtain ⟨v', w', hrun, h2, h3, _, _⟩ := run_append_own_at (P := P) w base t ty e i z size bytes ht hi hz hsize hby hzs hsz v n xs hown ad m c news hl (fun j u hu => by
      obtain ⟨b, o, e, hc⟩ := hr (by cases news <;> simp at hu ⊢)
      injection e with e
      subst e
      rw [add_at]
      exact hc j u hu) h1 h63 hbytes hbase
    exact ⟨v', w', hrun, h2, h3⟩

theorem wp_append_row {P : Program} (w : World) {o : Oper} {a : Act} {K : Act → World → Prop} {Q : Exit → Act → World → Prop} (s x : Operand) (t : TypeId)
    (ho : o.op = .call { callee := .builtin .append, args := #[s, x], argTypes := #[t, t] })
    (base : Nat) (e : TypeId) (i : TypeInfo) (z : Value) (size bytes : Nat) (ht : P.underlying t = some (.slice e)) (hi : P.info? e = some i) (hz : i.zero = some z)
    (hsize : i.size = size) (hby : i.bytes = bytes) (hzs : z.cells.size = size) (hsz : 0 < size)
    (v : Value) (n : Nat) (xs : List Value) (hs : a.eval s = v) (hown : w.ownsRow base e size v n xs)
    (A : Option Addr) (m c : Nat) (news : List Value) (hx : a.eval x = .slice A m c) (hl : news.length = m * size) (hr : Row w A news) (h1 : ∀ u ∈ news, u.oneCell' = true)
    (h63 : n + m ≤ maxLen) (hbytes : (n + m) * bytes ≤ 140737488355328) (hbase : base ≤ w.heap.size)
    (h : ∀ v' w', w'.ownsRow base e size v' (n + m) (xs ++ news) → w.grownBy w' v.ownBlock → K (a.put o.dst v') w') : o.wp P a w K Q := by
  obtain ⟨v', w', hrun, h2, h3⟩ := run_append_row (P := P) w base t o.type e i z size bytes ht hi hz hsize hby hzs hsz v n xs hown A m c news hl hr h1 h63 hbytes hbase
  unfold Oper.wp execOp
  simp only [ho, resolve, invoke, builtin, Sem.run_bind, Sem.run_pure, Result.andThen_ok, List.map_toArray, List.map_cons, List.map_nil, hs, hx, hrun]
  exact h v' w' h2 h3

theorem wpList_append_row {P : Program} (w : World) {ops : Array Oper} {rest : List Oper} {o : Oper} {a : Act} {Q : Exit → Act → World → Prop} (hgd : o.guard = none) (s x : Operand) (t : TypeId)
    (ho : o.op = .call { callee := .builtin .append, args := #[s, x], argTypes := #[t, t] })
    (base : Nat) (e : TypeId) (i : TypeInfo) (z : Value) (size bytes : Nat) (ht : P.underlying t = some (.slice e)) (hi : P.info? e = some i) (hz : i.zero = some z)
    (hsize : i.size = size) (hby : i.bytes = bytes) (hzs : z.cells.size = size) (hsz : 0 < size)
    (v : Value) (n : Nat) (xs : List Value) (hs : a.eval s = v) (hown : w.ownsRow base e size v n xs)
    (A : Option Addr) (m c : Nat) (news : List Value) (hx : a.eval x = .slice A m c) (hl : news.length = m * size) (hr : Row w A news) (h1 : ∀ u ∈ news, u.oneCell' = true)
    (h63 : n + m ≤ maxLen) (hbytes : (n + m) * bytes ≤ 140737488355328) (hbase : base ≤ w.heap.size)
    (h : ∀ v' w', w'.ownsRow base e size v' (n + m) (xs ++ news) → w.grownBy w' v.ownBlock → wpList P ops Q rest (a.put o.dst v') w') : wpList P ops Q (o :: rest) a w :=
  wpList_plain hgd fun _ hK => wp_append_row w s x t ho base e i z size bytes ht hi hz hsize hby hzs hsz v n xs hs hown A m c news hx hl hr h1 h63 hbytes hbase fun v' w' h2 h3 => hK _ _ (h v' w' h2 h3)

/-- the address of what is cut off at the front -/
def cutA (A : Option Addr) (cap k s : Nat) : Option Addr := if cap = k then A else A.map (·.add (k * s))
theorem Row.cut {w : World} {A : Option Addr} {xs : List Value} (h : Row w A xs) {n cap k s : Nat} (hl : xs.length = n * s) (hc : n ≤ cap) (hk : k ≤ n) : Row w (cutA A cap k s) (xs.drop (k * s)) := fun h0 => by
  have h1 : k * s < n * s := by rw [List.length_drop, hl] at h0; omega
  have hkn : k < n := Nat.lt_of_mul_lt_mul_right h1
  obtain ⟨b, o, rfl, hcell⟩ := h (by omega)
  unfold cutA
  rw [if_neg (by omega), Option.map_some, add_at]
  exact Row.drop h (k * s) h0
theorem Row.new (w : World) (cs : Array Value) (t : TypeId) : Row (w.alloc (.cells cs t)) (some ⟨w.heap.size, 0, none⟩) cs.toList := fun _ =>
  ⟨_, _, rfl, fun j u hu => by rw [← add_at]; exact World.news_of_block (heap_alloc_new w _) j u hu⟩
/-- s[k:] -/
theorem run_from {P : Program} {t e : TypeId} {i : TypeInfo} (ht : P.underlying t = some (.slice e)) (hi : P.info? e = some i) (A : Option Addr) (n cap : Nat) (k : Int) (W : World) (h0 : 0 ≤ k) (h1 : k ≤ n) :
    (Instr.slice t (.slice A n cap) (some (.int .i64 k)) none none).run P W = .ok (.slice (cutA A cap k.toNat i.size) (n - k.toNat) (cap - k.toNat)) W := by
  simp [Instr.slice, run_underlying ht, Instr.sliceBounds, run_sliceBound, sizeOf, typeInfo, hi, cutA, h0, h1]
/-- s[:k] -/
theorem run_upto {P : Program} {t e : TypeId} {i : TypeInfo} (ht : P.underlying t = some (.slice e)) (hi : P.info? e = some i) (A : Option Addr) (n cap : Nat) (k : Int) (W : World) (h0 : 0 ≤ k) (h1 : k ≤ cap) :
    (Instr.slice t (.slice A n cap) none (some (.int .i64 k)) none).run P W = .ok (.slice A k.toNat cap) W := by
  have e0 : A.map (·.add 0) = A := by cases A <;> simp [Addr.add]
  simp [Instr.slice, run_underlying ht, Instr.sliceBounds, run_sliceBound, sizeOf, typeInfo, hi, h0, h1, e0]
/-- make of no elements, with room -/
def roomC (z : Value) (n : Nat) : Array Value := madeCells z.cells n
theorem run_room {P : Program} {t e : TypeId} {i : TypeInfo} {z : Value} {s bytes : Nat} (ht : P.underlying t = some (.slice e)) (hi : P.info? e = some i) (hz : i.zero = some z) (hs : i.size = s) (hby : i.bytes = bytes) (c : Int) (W : World) (h0 : 0 ≤ c) (h1 : (bytes : Int) * c ≤ 281474976710656) (h2 : c ≤ 9223372036854775807) :
    (Instr.makeSlice t (.int .i64 0) (.int .i64 c)).run P W = .ok (.slice (some ⟨W.heap.size, 0, none⟩) 0 c.toNat) (W.alloc (.cells (roomC z (c.toNat * s)) e)) := by
  subst hs
  subst hby
  exact run_make W t e i z ht hi hz .i64 .i64 0 c (Int.le_refl _) h0 h1 h2
theorem roomC_size (z : Value) (n : Nat) : (roomC z n).size = n := size_madeCells _ _

end Go.Proofs.YthpminlfbjedpaaDoor

namespace Go.Proofs.YthpminlfbjedpaaDoor
open Go.ChangeShapes Go.WideShapes Go.ChangeAt Go.RowKit Go.Sort
set_option linter.unusedVariables false

set_option maxRecDepth 100000 in
/-- a slice of structs, opened: enc the cells of one, s how many, good what is told of one -/
theorem structs_open {α : Type} [Inhabited α] {en : α → List Value} {s : Nat} (hs : ∀ x, (en x).length = s) (h0 : 0 < s) {T E : TypeId} (hT : Tryd.prog.underlying T = some (.slice E)) (ce : Tryd.prog.cellsOf E = s) {good : α → Prop}
    {H : Type} {enc : TypeId × Value → H} {W : World} {base b0 : Nat} {sp : Nat → Bool} {hd : Bool} {r : Reach} {v : Value} {d : DataW H} {p : List MemPlace} 
    (hel : ∀ (fuel : Nat) (cs : List Value) (x : DataW H × List MemPlace), cs.length = s → DataW.trod enc Tryd.prog W base sp hd fuel E cs = some x → ∃ q, good q ∧ en q = cs)
    (hv : Value.okWide Tryd.prog W r b0 T v) (h : DataW.Trod enc Tryd.prog W base sp hd T v d p) :
    ∃ (A : Option Addr) (n cap : Nat) (l : List α), v = .slice A n cap ∧ l.length = n ∧ n ≤ cap ∧ n ≤ maxLen ∧ Row W A (flat en l) ∧ ∀ x ∈ l, good x := by
  obtain ⟨a, len, cap, rfl⟩ := okWide_slice hT hv
  obtain ⟨fuel, hf⟩ := h
  have hf' : DataW.trod enc Tryd.prog W base sp hd fuel T [.slice a len cap] = some (d, p) := hf
  rcases Go.Deep.open_slice hT hf' with ⟨e, _⟩ | ⟨a', len', cap', m, n, D, Pl, e, _, hl, hm, hmm, _, hi⟩
  · injection e with e
    injection e with e1 e2 e3
    subst e1
    subst e2
    subst e3
    exact ⟨_, _, _, [], rfl, rfl, Nat.le_refl _, by omega, Row.nil _ _, by simp⟩
  · injection e with e
    injection e with e1 e2 e3
    subst e1
    subst e2
    subst e3
    have hml : len ≤ m := by rw [hmm]; split <;> omega
    have hcell : ∀ i, i < len → ∃ q : α, good q ∧ ∀ j u, (en q)[j]? = some u → W.cell? (a'.add (i * s + j)) = some u := by
      intro i hil
      obtain ⟨cs', h1, h2⟩ := hi i (by omega)
      rw [ce] at h1
      obtain ⟨_, hlen, hc⟩ := World.cells?_some h1
      obtain ⟨q, hq, hqc⟩ := hel _ _ _ hlen h2
      refine ⟨q, hq, fun j u hu => ?_⟩
      have hj : j < s := by
        rcases Nat.lt_or_ge j s with g | g
        · exact g
        · rw [List.getElem?_eq_none (by rw [hs]; exact g)] at hu; cases hu
      have e0 := hc j hj
      rw [Go.Deep.add_add] at e0
      rw [e0, ← hqc]
      exact hu
    obtain ⟨q, hq⟩ := Go.Deep.choose_lt hcell
    refine ⟨some a', len, cap, (List.range len).map q, rfl, by simp, hl, by omega, ?_, ?_⟩
    · intro hp
      have hlen : 0 < len := by
        rw [flat_len hs] at hp
        simp at hp
        rcases Nat.eq_zero_or_pos len with z | z
        · rw [z] at hp; simp at hp
        · exact z
      obtain ⟨u0, hu0⟩ : ∃ u, (en (q 0))[0]? = some u := ⟨_, List.getElem?_eq_getElem (by rw [hs]; exact h0)⟩
      have g0 := (hq 0 hlen).2 0 u0 hu0
      obtain ⟨b, o, spot⟩ := a'
      have hspot : spot = none := by simpa [Addr.add] using World.cell?_spot g0
      subst hspot
      refine ⟨b, o, rfl, fun j u hu => ?_⟩
      have hj : j < len * s := by
        rcases Nat.lt_or_ge j (len * s) with k | k
        · exact k
        · rw [List.getElem?_eq_none (by rw [flat_len hs]; simpa using k)] at hu; cases hu
      have hdiv : j / s < len := Nat.div_lt_of_lt_mul (by rw [Nat.mul_comm]; exact hj)
      have hget : ((List.range len).map q)[j / s]? = some (q (j / s)) := by
        rw [List.getElem?_map, List.getElem?_range hdiv]; rfl
      have ej : j = j / s * s + j % s := by rw [Nat.mul_comm]; exact (Nat.div_add_mod j s).symm
      rw [ej, flat_at hs hget (Nat.mod_lt _ h0)] at hu
      have := (hq (j / s) hdiv).2 (j % s) u hu
      rw [add_at] at this
      rw [ej]; exact this
    · intro x hx
      obtain ⟨i, hi', rfl⟩ := List.mem_map.1 hx
      exact (hq i (List.mem_range.1 hi')).1

set_option maxRecDepth 100000 in
/-- an Id's cells, opened -/
theorem id_cells {H : Type} {enc : TypeId × Value → H} {W : World} {base : Nat} {sp : Nat → Bool} {hd : Bool} {fuel : Nat} {v0 v1 : Value} {x : DataW H × List MemPlace} (h : DataW.trod enc Tryd.prog W base sp hd fuel 47 [v0, v1] = some x) :
    ∃ a b : Int, v0 = Vu a ∧ v1 = Vu b ∧ 0 ≤ a ∧ a ≤ 4294967295 ∧ 0 ≤ b ∧ b ≤ 4294967295 := by
  obtain ⟨xs, k, hk, hxy, _, hxl, hfd⟩ := DataW.trod_struct Tryd.underlying47 h
  match xs, hxl with
  | [y0, y1], _ =>
    have g0 := hfd 0 _ rfl
    have g1 := hfd 1 _ rfl
    have cu : Tryd.prog.cellsOf 45 = 1 := by kernel_rfl
    simp [cu] at g0 g1
    obtain ⟨a, t0, _, wa⟩ := DataW.trod_int Tryd.underlying45 g0
    obtain ⟨b, t1, _, wb⟩ := DataW.trod_int Tryd.underlying45 g1
    simp at t0 t1
    have ba := bounds_u32 wa
    have bb := bounds_u32 wb
    exact ⟨a, b, t0, t1, ba.1, ba.2, bb.1, bb.2⟩

end Go.Proofs.YthpminlfbjedpaaDoor

namespace Go.Proofs.YthpminlfbjedpaaDoor
open Go.ChangeShapes Go.WideShapes Go.ChangeAt Go.RowKit Go.Sort
set_option linter.unusedVariables false

/-- a row of the call's own, of whatever elements -/
def OwnG (t : TypeId) (s : Nat) (w W : World) (v : Value) (n : Nat) (xs : List Value) : Prop := W.ownsRow w.heap.size t s v n xs
section
variable {t : TypeId} {s : Nat} {w W W' : World} {v : Value} {n : Nat} {xs : List Value}
theorem OwnG.nil (t : TypeId) (s : Nat) (w W : World) : OwnG t s w W (.slice none 0 0) 0 [] := World.ownsRow_nil W _ _ _
theorem OwnG.ext (h : OwnG t s w W v n xs) (hx : Ext W W') : OwnG t s w W' v n xs := by
  unfold OwnG at h ⊢
  rcases h with ⟨h1, h2 | ⟨g, cap, cur, h2, h3, h4, h5⟩⟩
  · exact ⟨h1, .inl h2⟩
  · refine ⟨h1, .inr ⟨g, cap, cur, h2, h3, ?_, h5⟩⟩
    have hg : g < W.heap.size := by
      rcases Nat.lt_or_ge g W.heap.size with k | k
      · exact k
      · rw [Array.getElem?_eq_none k] at h4; cases h4
    rw [RowKit.Below.block hx g hg]; exact h4
theorem OwnG.down {w0 : World} (h : OwnG t s w W v n xs) (hx : Ext w0 w) : OwnG t s w0 W v n xs := by
  unfold OwnG at h ⊢
  rcases h with ⟨h1, h2 | ⟨g, cap, cur, h2, h3, h4⟩⟩
  · exact ⟨h1, .inl h2⟩
  · exact ⟨h1, .inr ⟨g, cap, cur, h2, Nat.le_trans hx.size h3, h4⟩⟩
theorem OwnG.form (h : OwnG t s w W v n xs) : ∃ A c, v = .slice A n c ∧ n ≤ c := by
  rcases h.2 with ⟨rfl, h0⟩ | ⟨g, cap, cur, rfl, _, _, h2, _⟩
  · exact ⟨none, 0, by rw [h0], by omega⟩
  · exact ⟨_, _, rfl, h2⟩
theorem OwnG.lt (h : OwnG t s w W v n xs) : ∀ k, v.ownBlock = some k → w.heap.size ≤ k := fun k hk => (World.ownsRow.lt h k hk).1
theorem OwnG.row {A : Option Addr} {c : Nat} (h : OwnG t s w W (.slice A n c) n xs) : Row W A xs := Row.own h
end

/-- a byte's cell -/
abbrev Vb (x : UInt8) : Value := .int .u8 (x.toNat : Int)
/-- a slice's address, from which bytes lie -/
def Bys (w : World) (A : Option Addr) (l : List UInt8) : Prop := Row w A (l.map Vb)
theorem Bys.ext {w w' : World} {A : Option Addr} {l : List UInt8} (h : Bys w A l) (hx : Ext w w') : Bys w' A l := Row.ext h hx
theorem Bys.nil (w : World) (A : Option Addr) : Bys w A [] := Row.nil w A
theorem Bys.at {w : World} {A : Option Addr} {l : List UInt8} (h : Bys w A l) {k : Nat} (hk : k < l.length) : ∃ b o, A = some ⟨b, o, none⟩ ∧ w.cell? ⟨b, o + k, none⟩ = some (Vb (l.getD k 0)) := by
  obtain ⟨b, o, e, hc⟩ := h (by rw [List.length_map]; omega)
  refine ⟨b, o, e, hc k _ ?_⟩
  simp [List.getD, hk]
theorem Bys.all {w : World} {b o : Nat} {l : List UInt8} (h : Bys w (some ⟨b, o, none⟩) l) (k : Nat) (hk : k < l.length) : w.cell? ⟨b, o + k, none⟩ = some (Vb (l.getD k 0)) := by
  obtain ⟨b', o', e, hc⟩ := h.at hk
  injection e with e
  injection e with e1 e2 e3
  subst e1
  subst e2
  exact hc
theorem Bys.place {w : World} {A : Option Addr} {l : List UInt8} (h : Bys w A l) (hk : 0 < l.length) : ∃ b o, A = some ⟨b, o, none⟩ := by
  obtain ⟨b, o, e, _⟩ := h.at hk
  exact ⟨b, o, e⟩
theorem Bys.take {w : World} {A : Option Addr} {l : List UInt8} (h : Bys w A l) (k : Nat) : Bys w A (l.take k) := by
  unfold Bys; rw [List.map_take]; exact Row.take h _
theorem Bys.cut {w : World} {A : Option Addr} {l : List UInt8} (h : Bys w A l) {n cap k : Nat} (hn : l.length = n) (hc : n ≤ cap) (hk : k ≤ n) : Bys w (cutA A cap k 1) (l.drop k) := by
  have := Row.cut (s := 1) h (n := n) (cap := cap) (k := k) (by rw [List.length_map, hn, Nat.mul_one]) hc hk
  unfold Bys; rw [List.map_drop]; rw [Nat.mul_one] at this; exact this
theorem map_Vb_one (l : List UInt8) : ∀ u ∈ l.map Vb, u.oneCell' = true := by intro u hu; obtain ⟨b, _, rfl⟩ := List.mem_map.1 hu; rfl

theorem infoB : (Tryd.prog.info? 5).map (fun i => (i.zero, i.size, i.bytes)) = some (some (.int .u8 0), 1, 1) := by kernel_rfl
theorem fromB (A : Option Addr) (n cap k : Nat) (h1 : k ≤ n) (z : Int) (hz : z = k) (W : World) : (Instr.slice 26 (.slice A n cap) (some (.int .i64 z)) none none).run Tryd.prog W = .ok (.slice (cutA A cap k 1) (n - k) (cap - k)) W := by
  subst hz
  obtain ⟨i, hi, hz0, hz1, hz2⟩ := info_parts infoB
  have := run_from Tryd.underlying26 hi A n cap k W (by omega) (by omega)
  rw [hz1] at this
  exact this
theorem uptoB (A : Option Addr) (n cap k : Nat) (h1 : k ≤ cap) (z : Int) (hz : z = k) (W : World) : (Instr.slice 26 (.slice A n cap) none (some (.int .i64 z)) none).run Tryd.prog W = .ok (.slice A k cap) W := by
  subst hz
  obtain ⟨i, hi, hz0, hz1, hz2⟩ := info_parts infoB
  exact run_upto Tryd.underlying26 hi A n cap k W (by omega) (by omega)
theorem uptoU (A : Option Addr) (n cap k : Nat) (h1 : k ≤ cap) (z : Int) (hz : z = k) (W : World) : (Instr.slice 26 (.slice A n cap) none (some (.int .u32 z)) none).run Tryd.prog W = .ok (.slice A k cap) W := by
  subst hz
  obtain ⟨i, hi, hz0, hz1, hz2⟩ := info_parts infoB
  have e0 : A.map (·.add 0) = A := by cases A <;> simp [Addr.add]
  have hb : ∀ c, (Instr.sliceBound (.int .u32 (k : Int)) cap c).run Tryd.prog W = .ok k W := fun c => by
    have h2 : (0 : Int) ≤ k ∧ (k : Int) ≤ cap := by omega
    simp [Instr.sliceBound, asIntOf, h2]
  simp [Instr.slice, run_underlying Tryd.underlying26, Instr.sliceBounds, hb, sizeOf, typeInfo, hi, e0]
/-- s[j:k] -/
theorem midB (A : Option Addr) (n cap j k : Nat) (h0 : j ≤ k) (h1 : k ≤ cap) (x z : Int) (hx : x = j) (hz : z = k) (W : World) : (Instr.slice 26 (.slice A n cap) (some (.int .i64 x)) (some (.int .i64 z)) none).run Tryd.prog W = .ok (.slice (cutA A cap j 1) (k - j) (cap - j)) W := by
  subst hx
  subst hz
  obtain ⟨i, hi, hz0, hz1, hz2⟩ := info_parts infoB
  simp [Instr.slice, run_underlying Tryd.underlying26, Instr.sliceBounds, run_sliceBound, sizeOf, typeInfo, hi, cutA, hz1, h0, h1]
/-- s[:n:n] -/
theorem clipB (A : Option Addr) (n cap : Nat) (h1 : n ≤ cap) (z : Int) (hz : z = n) (W : World) : (Instr.slice 26 (.slice A n cap) none (some (.int .i64 z)) (some (.int .i64 z))).run Tryd.prog W = .ok (.slice A n n) W := by
  subst hz
  obtain ⟨i, hi, hz0, hz1, hz2⟩ := info_parts infoB
  have e0 : A.map (·.add 0) = A := by cases A <;> simp [Addr.add]
  simp [Instr.slice, run_underlying Tryd.underlying26, Instr.sliceBounds, run_sliceBound, sizeOf, typeInfo, hi, e0, h1]

/-- string(b) -/
theorem textB {w : World} {A : Option Addr} {n c : Nat} {l : List UInt8} (h : Bys w A l) (hn : l.length = n) : (convert 26 9 (.slice A n c)).run Tryd.prog w = .ok (.string ⟨l.toArray⟩) w := by
  subst hn
  rcases Nat.eq_zero_or_pos l.length with h0 | h0
  · obtain rfl : l = [] := List.eq_nil_of_length_eq_zero h0
    cases A with
    | none => exact Lib.run_convert_nil_bytes w _ _ _ c Tryd.underlying26 Tryd.underlying5 Tryd.underlying9
    | some a => exact run_convert_bytes_back w _ _ _ a c [] Tryd.underlying26 Tryd.underlying5 Tryd.underlying9 (fun j hj => absurd hj (by simp))
  · obtain ⟨b, o, rfl⟩ := h.place h0
    refine run_convert_bytes_back w _ _ _ ⟨b, o, none⟩ c l Tryd.underlying26 Tryd.underlying5 Tryd.underlying9 (fun j hj => ?_)
    rw [add_at, h.all j hj]
    simp [List.getD, hj]

/-- bytes of the call's own -/
def OwnB (w W : World) (v : Value) (l : List UInt8) : Prop := OwnG 5 1 w W v l.length (l.map Vb)
theorem OwnB.nil (w W : World) : OwnB w W (.slice none 0 0) [] := OwnG.nil _ _ _ _
theorem OwnB.ext {w W W' : World} {v : Value} {l : List UInt8} (h : OwnB w W v l) (hx : Ext W W') : OwnB w W' v l := OwnG.ext h hx
theorem OwnB.down {w0 w W : World} {v : Value} {l : List UInt8} (h : OwnB w W v l) (hx : Ext w0 w) : OwnB w0 W v l := OwnG.down h hx
theorem OwnB.open {w W : World} {v : Value} {l : List UInt8} (h : OwnB w W v l) : ∃ A c, v = .slice A l.length c ∧ l.length ≤ c ∧ Bys W A l := by
  obtain ⟨A, c, rfl, hc⟩ := OwnG.form h
  exact ⟨A, c, rfl, hc, OwnG.row h⟩
theorem OwnB.lt {w W : World} {v : Value} {l : List UInt8} (h : OwnB w W v l) : ∀ k, v.ownBlock = some k → w.heap.size ≤ k := OwnG.lt h
def roomB (c : Nat) : Array Value := roomC (.int .u8 0) (c * 1)
theorem roomB_run (c : Nat) (h1 : c ≤ 3000) (k : Int) (hk : k = c) (W : World) :
    (Instr.makeSlice 26 (.int .i64 0) (.int .i64 k)).run Tryd.prog W = .ok (.slice (some ⟨W.heap.size, 0, none⟩) 0 c) (W.alloc (.cells (roomB c) 5)) := by
  subst hk
  obtain ⟨i, hi, hz0, hz1, hz2⟩ := info_parts infoB
  have := run_room Tryd.underlying26 hi hz0 hz1 hz2 (c : Int) W (by omega) (by omega) (by omega)
  rwa [Int.toNat_natCast] at this
theorem OwnB.room {w0 W : World} (hx : Ext w0 W) (c : Nat) (h1 : c ≤ 3000) : OwnB w0 (W.alloc (.cells (roomB c) 5)) (.slice (some ⟨W.heap.size, 0, none⟩) 0 c) [] :=
  World.ownsRow_made W _ _ hx.size (by unfold maxLen; omega) (roomC_size _ _)
/-- []byte{..}: a row of the call's own -/
theorem OwnB.new {w0 W : World} (hx : Ext w0 W) (l : List UInt8) (hl : l.length ≤ 3000) (cs : Array Value) (hc : cs = (l.map Vb).toArray) : OwnB w0 (W.alloc (.cells cs 5)) (.slice (some ⟨W.heap.size, 0, none⟩) l.length l.length) l := by
  subst hc
  refine ⟨by simp, .inr ⟨W.heap.size, l.length, _, rfl, hx.size, heap_alloc_new W _, Nat.le_refl _, by unfold maxLen; omega, by simp, by simpa using List.take_of_length_le (by simp)⟩⟩
theorem Bys.new (w : World) (l : List UInt8) (cs : Array Value) (hc : cs = (l.map Vb).toArray) : Bys (w.alloc (.cells cs 5)) (some ⟨w.heap.size, 0, none⟩) l := by
  subst hc
  have := Row.new w (l.map Vb).toArray 5
  exact this

theorem Bys.new2 (w : World) (o : Obj) (l : List UInt8) (cs : Array Value) (hc : cs = (l.map Vb).toArray) : Bys ((w.alloc o).alloc (.cells cs 5)) (some ⟨w.heap.size + 1, 0, none⟩) l := by
  have := Bys.new (w.alloc o) l cs hc
  rw [show (w.alloc o).heap.size = w.heap.size + 1 by simp] at this
  exact this

/-- bytes of the call's own are told, and nothing that was there has turned -/
def RetB (w : World) (l : List UInt8) (e : Ending) (w' : World) : Prop := ∃ v, e = .returned v ∧ OwnB w w' v l ∧ Ext w w'

/-- bytes are appended to a row of the call's own -/
theorem wpList_append_B {w0 w : World} {ops : Array Oper} {rest : List Oper} {o : Oper} {a : Act} {Q : Exit → Act → World → Prop} (hgd : o.guard = none) (s x : Operand)
    (ho : o.op = .call { callee := .builtin .append, args := #[s, x], argTypes := #[26, 26] })
    (v : Value) (l : List UInt8) (hs : a.eval s = v) (hown : OwnB w0 w v l) (hx : Ext w0 w)
    (A : Option Addr) (m c : Nat) (r : List UInt8) (he : a.eval x = .slice A m c) (hm : r.length = m) (hr : Bys w A r) (hb : l.length + r.length ≤ 30000)
    (h : ∀ v' w', OwnB w0 w' v' (l ++ r) → Ext w0 w' → w.grownBy w' v.ownBlock → wpList Tryd.prog ops Q rest (a.put o.dst v') w') : wpList Tryd.prog ops Q (o :: rest) a w := by
  obtain ⟨i, hi, hz0, hz1, hz2⟩ := info_parts infoB
  subst hm
  refine wpList_append_row w hgd s x _ ho w0.heap.size 5 i _ 1 1 Tryd.underlying26 hi hz0 hz1 hz2 rfl (by omega) v l.length _ hs hown A r.length c _ he (by simp) hr (map_Vb_one r)
    (by unfold maxLen; omega) (by omega) hx.size ?_
  intro v' w' h1 h2
  refine h v' w' ?_ (hx.grown h2 hown.lt) h2
  unfold OwnB OwnG
  rw [List.map_append, List.length_append]
  exact h1
/-- a text's bytes are appended to a row of the call's own -/
theorem wpList_append_T {w0 w : World} {ops : Array Oper} {rest : List Oper} {o : Oper} {a : Act} {Q : Exit → Act → World → Prop} (hgd : o.guard = none) (s x : Operand)
    (ho : o.op = .call { callee := .builtin .append, args := #[s, x], argTypes := #[26, 9] })
    (v : Value) (l : List UInt8) (hs : a.eval s = v) (hown : OwnB w0 w v l) (hx : Ext w0 w)
    (r : ByteArray) (he : a.eval x = .string r) (hb : l.length + r.size ≤ 30000)
    (h : ∀ v' w', OwnB w0 w' v' (l ++ r.data.toList) → Ext w0 w' → w.grownBy w' v.ownBlock → wpList Tryd.prog ops Q rest (a.put o.dst v') w') : wpList Tryd.prog ops Q (o :: rest) a w := by
  obtain ⟨i, hi, hz0, hz1, hz2⟩ := info_parts infoB
  refine Lib.wpList_append_own_string w hgd s x _ _ ho w0.heap.size 5 i Tryd.underlying26 Tryd.underlying9 hi hz0 hz1 hz2 v l.length _ hs hown r he (by unfold maxLen; omega) (by omega) hx.size ?_
  intro v' w' h1 h2 _
  refine h v' w' ?_ (hx.grown h2 hown.lt) h2
  unfold OwnB OwnG
  rw [List.map_append, List.length_append, Array.length_toList]
  exact h1

end Go.Proofs.YthpminlfbjedpaaDoor

namespace Go.Proofs.YthpminlfbjedpaaDoor
open Go.ChangeShapes Go.WideShapes Go.ChangeAt Go.RowKit Go.Sort
set_option linter.unusedVariables false

def cmpI (a b : Int) : Int := if a < b then -1 else if b < a then 1 else 0

/-- cmp.isNaN at uint32 -/
theorem isNaN_any (a : Int) (w : World) : Calls Tryd.prog 61 #[Vu a] w fun e w' => e = .returned (.bool false) ∧ w = w' := by
  go_enter Tryd.func61, Tryd.ntmps61
  go_wp2
  go_ret
  exact ⟨by simp, rfl⟩

theorem compare_any (a b : Int) (w : World) : Calls Tryd.prog 57 #[Vu a, Vu b] w fun e w' => e = .returned (Vi (cmpI a b)) ∧ w = w' := by
  go_enter Tryd.func57, Tryd.ntmps57
  go_wp2_with (go_at_call 61; refine (isNaN_any _ _).mono ?_; rintro e w' ⟨rfl, rfl⟩)
  all_goals go_ret
  all_goals refine ⟨?_, rfl⟩
  all_goals (refine ret_i64 ?_; unfold cmpI; (repeat' split) <;> omega)

end Go.Proofs.YthpminlfbjedpaaDoor

namespace Go.Proofs.YthpminlfbjedpaaDoor
open Go.ChangeShapes Go.WideShapes Go.ChangeAt Go.RowKit Go.Sort
set_option linter.unusedVariables false

/-- an error that is a Code, 0 for none -/
def errv (c : Int) : Value := if c = 0 then .nilIface else .iface 58 (.int .i64 c)

/-- two errors that are Codes are the same where their numbers are -/
theorem err_eql (c : Int) : ∀ (x : Int) (W : World), (binOp .eql 31 (.iface 58 (.int .i64 c)) (.iface 58 (.int .i64 x))).run Tryd.prog W = .ok (.bool (c == x)) W := by
  intro x W
  obtain ⟨i38, h1, h2⟩ : ∃ i, Tryd.prog.info? 58 = some i ∧ i.comparable = true := by
    have h : (Tryd.prog.info? 58).map (fun i => i.comparable) = some true := by kernel_rfl
    cases hi : Tryd.prog.info? 58 with
    | none => rw [hi] at h; cases h
    | some i => rw [hi] at h; exact ⟨i, rfl, by simpa using h⟩
  have deep : ∀ d : Nat, (Op.equalIn (d + 2) 31 (.iface 58 (.int .i64 c)) (.iface 58 (.int .i64 x))).run Tryd.prog W = .ok (c == x) W := fun d => by
    simp [Op.equalIn, run_underlying Tryd.underlying31, run_underlying Tryd.underlying58, typeInfo, h1, h2]
  simp only [binOp]
  simp [Op.equal, Op.maxDepth, deep 9998]

theorem code_zero (w : World) : Calls Tryd.prog 14 #[.nilIface] w fun e w' => e = .returned (Vi 0) ∧ w = w' := by
  go_enter Tryd.func14, Tryd.ntmps14
  go_wp2
  go_ret
  exact ⟨rfl, rfl⟩

theorem code_some (c : Int) (w : World) (h1 : 1 ≤ c) (h6 : c ≤ 6) : Calls Tryd.prog 14 #[.iface 58 (.int .i64 c)] w fun e w' => e = .returned (Vi c) ∧ w = w' := by
  have heq := err_eql c
  go_enter Tryd.func14, Tryd.ntmps14
  go_wp2
  go_loop [3] (fun i => ∃ k : Int, 1 ≤ k ∧ k ≤ c ∧ i = .int .i64 k) (fun i => (c - intOf i).toNat)
  case atStart => exact ⟨1, by omega, by omega, rfl⟩
  case round =>
    obtain ⟨k, hk1, hkc, rfl⟩ := hrel
    by_cases hlt : k = c
    · subst hlt
      go_wp2
      go_ret
      exact ⟨rfl, rfl⟩
    · have h1' : (c == k) = false := by simp; omega
      go_wp2
      go_round
      case rel => exact ⟨k + 1, by omega, by omega, rfl⟩
      case measure => simp [intOf]; omega

theorem code_any (c : Int) (w : World) (h0 : 0 ≤ c) (h6 : c ≤ 6) : Calls Tryd.prog 14 #[errv c] w fun e w' => e = .returned (Vi c) ∧ w = w' := by
  by_cases h : c = 0
  · subst h; exact code_zero w
  · simp only [errv, if_neg h]; exact code_some c w (by omega) h6

end Go.Proofs.YthpminlfbjedpaaDoor

namespace Go.Proofs.YthpminlfbjedpaaDoor
open Go.ChangeShapes Go.WideShapes Go.ChangeAt Go.RowKit Go.Sort
set_option linter.unusedVariables false

theorem none_any (a b : Int) (w : World) : Calls Tryd.prog 56 #[idv a b] w fun e w' => e = .returned (.bool (a == 0)) ∧ Ext w w' := by
  go_enter Tryd.func56, Tryd.ntmps56
  go_wp2
  go_ret
  exact ⟨rfl, (Ext.refl _).alloc _⟩

/-- the same Id -/
def idEq (a b c d : Int) : Bool := decide (a = c ∧ b = d)

theorem id_eql (a b c d : Int) (W : World) : (binOp .eql 47 (idv a b) (idv c d)).run Tryd.prog W = .ok (.bool (idEq a b c d)) W := by
  by_cases h1 : a = c
  · by_cases h2 : b = d
    · simp [go_sem, idEq, h1, h2]
    · have h2' : (b == d) = false := by simpa using h2
      simp [go_sem, idEq, h1, h2, h2']
  · have h1' : (a == c) = false := by simpa using h1
    simp [go_sem, idEq, h1, h1']

def cmpId (a b c d : Int) : Int := if a = c then cmpI b d else cmpI a c

theorem cmp_any (a b c d : Int) (w : World) : Calls Tryd.prog 46 #[idv a b, idv c d] w fun e w' => e = .returned (Vi (cmpId a b c d)) ∧ Ext w w' := by
  by_cases h : a = c
  · subst h
    go_enter Tryd.func46, Tryd.ntmps46
    go_wp2_with (go_at_call 57; refine (compare_any _ _ _).mono ?_; rintro e w' ⟨rfl, rfl⟩)
    go_ret
    exact ⟨by simp [cmpId], ((Ext.refl _).alloc _).alloc _⟩
  · have h' : (a != c) = true := by simpa using h
    go_enter Tryd.func46, Tryd.ntmps46
    go_wp2_with (go_at_call 57; refine (compare_any _ _ _).mono ?_; rintro e w' ⟨rfl, rfl⟩)
    go_ret
    exact ⟨by simp [cmpId, h], ((Ext.refl _).alloc _).alloc _⟩

def befId (a b c d : Int) : Bool := decide (a < c ∨ a = c ∧ b < d)

theorem before_any (a b c d : Int) (w : World) : Calls Tryd.prog 19 #[idv a b, idv c d] w fun e w' => e = .returned (.bool (befId a b c d)) ∧ Ext w w' := by
  go_enter Tryd.func19, Tryd.ntmps19
  go_wp2
  all_goals go_ret
  all_goals refine ⟨?_, ((Ext.refl _).alloc _).alloc _⟩
  all_goals simp [befId, *]
  all_goals omega

def cmpRef (a b c d : Int) : Int := if befId a b c d then -1 else if befId c d a b then 1 else 0

/-- what After tells: the Id and the number of the error -/
def aftId (a b n l : Int) : Int × Int × Int := if a = 0 ∨ n < 0 then (0, 0, 1) else if b + n > l then (0, 0, 4) else (a, b + n, 0)

theorem after_any (a b n l : Int) (w : World) (hb0 : 0 ≤ b) (hb1 : b ≤ 4294967295) (hn0 : -9223372036854775808 ≤ n) (hn1 : n ≤ 9223372036854775807) (hl0 : 0 ≤ l) (hl1 : l ≤ 4294967295) :
    Calls Tryd.prog 43 #[idv a b, Vi n, Vu l] w fun e w' => e = .returned (.tuple #[idv (aftId a b n l).1 (aftId a b n l).2.1, errv (aftId a b n l).2.2]) ∧ Ext w w' := by
  by_cases h1 : a = 0 ∨ n < 0
  · have ht : aftId a b n l = (0, 0, 1) := by simp [aftId, h1]
    rw [ht]
    clear ht
    by_cases ha : a = 0
    · subst ha
      clear h1
      go_enter Tryd.func43, Tryd.ntmps43
      go_wp2_with fail
      refine (none_any _ _ _).mono ?_
      rintro e w1 ⟨rfl, hb⟩
      have hE : Ext w w1 := Ext.trans (((Ext.refl _).alloc _).alloc _) hb
      obtain ⟨hc, hf⟩ := hb.cells
      go_wp2
      exact bodyPost_ret (v := .tuple #[idv 0 0, errv 1]) (by simp [results, Tryd.results43, go_sem, hc, errv]) rfl ⟨rfl, (hE.setCell (by simp) _).setCell (by simp) _⟩
    · have hn : n < 0 := by omega
      have ha' : (a == 0) = false := by simpa using ha
      clear h1 ha
      go_enter Tryd.func43, Tryd.ntmps43
      go_wp2_with fail
      refine (none_any _ _ _).mono ?_
      rintro e w1 ⟨rfl, hb⟩
      have hE : Ext w w1 := Ext.trans (((Ext.refl _).alloc _).alloc _) hb
      obtain ⟨hc, hf⟩ := hb.cells
      go_wp2
      exact bodyPost_ret (v := .tuple #[idv 0 0, errv 1]) (by simp [results, Tryd.results43, go_sem, hc, errv]) rfl ⟨rfl, (hE.setCell (by simp) _).setCell (by simp) _⟩
  · have ha' : (a == 0) = false := by simp; omega
    have hn : 0 ≤ n := by omega
    by_cases h2 : b + n > l
    · have ht : aftId a b n l = (0, 0, 4) := by simp [aftId, h1, h2]
      rw [ht]
      clear ht h1
      go_enter Tryd.func43, Tryd.ntmps43
      go_wp2_with fail
      refine (none_any _ _ _).mono ?_
      rintro e w1 ⟨rfl, hb⟩
      have hE : Ext w w1 := Ext.trans (((Ext.refl _).alloc _).alloc _) hb
      obtain ⟨hc, hf⟩ := hb.cells
      go_wp2
      exact bodyPost_ret (v := .tuple #[idv 0 0, errv 4]) (by simp [results, Tryd.results43, go_sem, hc, errv]) rfl ⟨rfl, (hE.setCell (by simp) _).setCell (by simp) _⟩
    · have ht : aftId a b n l = (a, b + n, 0) := by simp [aftId, h1, h2]
      rw [ht]
      clear ht h1
      go_enter Tryd.func43, Tryd.ntmps43
      go_wp2_with fail
      refine (none_any _ _ _).mono ?_
      rintro e w1 ⟨rfl, hb⟩
      have hE : Ext w w1 := Ext.trans (((Ext.refl _).alloc _).alloc _) hb
      obtain ⟨hc, hf⟩ := hb.cells
      go_wp2
      exact bodyPost_ret (v := .tuple #[idv a (b + n), errv 0]) (by simp [results, Tryd.results43, go_sem, hc, errv]) rfl ⟨rfl, (hE.setCell (by simp) _).setCell (by simp) _⟩

theorem afterRef_any (a b n l : Int) (w : World) (hb0 : 0 ≤ b) (hb1 : b ≤ 4294967295) (hn0 : -9223372036854775808 ≤ n) (hn1 : n ≤ 9223372036854775807) (hl0 : 0 ≤ l) (hl1 : l ≤ 4294967295) :
    Calls Tryd.prog 50 #[idv a b, Vi n, Vu l] w fun e w' => e = .returned (.tuple #[idv (aftId a b n l).1 (aftId a b n l).2.1, Vi (aftId a b n l).2.2]) ∧ Ext w w' := by
  by_cases h1 : a = 0 ∨ n < 0
  · have ht : aftId a b n l = (0, 0, 1) := by simp [aftId, h1]
    rw [ht]
    clear ht
    by_cases ha : a = 0
    · subst ha
      clear h1
      go_enter Tryd.func50, Tryd.ntmps50
      go_wp2
      exact bodyPost_ret (v := .tuple #[idv 0 0, Vi 1]) (by simp [results, Tryd.results50, go_sem]) rfl ⟨rfl, ((Ext.refl _).alloc _).alloc _⟩
    · have hn : n < 0 := by omega
      have ha' : (a == 0) = false := by simpa using ha
      clear h1 ha
      go_enter Tryd.func50, Tryd.ntmps50
      go_wp2
      exact bodyPost_ret (v := .tuple #[idv 0 0, Vi 1]) (by simp [results, Tryd.results50, go_sem]) rfl ⟨rfl, ((Ext.refl _).alloc _).alloc _⟩
  · have ha' : (a == 0) = false := by simp; omega
    have hn : 0 ≤ n := by omega
    by_cases h2 : b + n > l
    · have ht : aftId a b n l = (0, 0, 4) := by simp [aftId, h1, h2]
      rw [ht]
      clear ht h1
      go_enter Tryd.func50, Tryd.ntmps50
      go_wp2
      all_goals exact bodyPost_ret (v := .tuple #[idv 0 0, Vi 4]) (by simp [results, Tryd.results50, go_sem]) rfl ⟨rfl, ((Ext.refl _).alloc _).alloc _⟩
    · have ht : aftId a b n l = (a, b + n, 0) := by simp [aftId, h1, h2]
      rw [ht]
      clear ht h1
      go_enter Tryd.func50, Tryd.ntmps50
      go_wp2
      all_goals exact bodyPost_ret (v := .tuple #[idv a (b + n), Vi 0]) (by simp [results, Tryd.results50, go_sem]) rfl ⟨rfl, ((Ext.refl _).alloc _).alloc _⟩

theorem after_nil {a b n l x y : Int} (w : World) (h : aftId a b n l = (x, y, 0)) (hb0 : 0 ≤ b) (hb1 : b ≤ 4294967295) (hn0 : -9223372036854775808 ≤ n) (hn1 : n ≤ 9223372036854775807) (hl0 : 0 ≤ l) (hl1 : l ≤ 4294967295) :
    Calls Tryd.prog 43 #[idv a b, Vi n, Vu l] w fun e w' => e = .returned (.tuple #[idv x y, .nilIface]) ∧ Ext w w' := by
  have := after_any a b n l w hb0 hb1 hn0 hn1 hl0 hl1
  rw [h] at this
  exact this
theorem after_err {a b n l x y c : Int} (w : World) (h : aftId a b n l = (x, y, c)) (hc : c ≠ 0) (hb0 : 0 ≤ b) (hb1 : b ≤ 4294967295) (hn0 : -9223372036854775808 ≤ n) (hn1 : n ≤ 9223372036854775807) (hl0 : 0 ≤ l) (hl1 : l ≤ 4294967295) :
    Calls Tryd.prog 43 #[idv a b, Vi n, Vu l] w fun e w' => e = .returned (.tuple #[idv x y, .iface 58 (.int .i64 c)]) ∧ Ext w w' := by
  have := after_any a b n l w hb0 hb1 hn0 hn1 hl0 hl1
  rw [h] at this
  simp only [errv, if_neg hc] at this
  exact this

theorem cellsId : Tryd.prog.cellsOf 47 = 2 := by kernel_rfl

set_option maxRecDepth 100000 in
/-- an Id, opened -/
theorem id_opens {H : Type} {enc : TypeId × Value → H} {W : World} {base b0 : Nat} {sp : Nat → Bool} {hd : Bool} {r : Reach} {v : Value} {d : DataW H} {p : List MemPlace} (hv : Value.okWide Tryd.prog W r b0 47 v) (h : DataW.Trod enc Tryd.prog W base sp hd 47 v d p) :
    ∃ a b : Int, v = idv a b ∧ d = .agg [.lit (.int .u32 a), .lit (.int .u32 b)] ∧ p = [] ∧ (Lit.int .u32 a).wf = true ∧ (Lit.int .u32 b).wf = true := by
  obtain ⟨c0, c1, y0, y1, m, rfl, rfl, rfl, hy0, hy1⟩ := Go.Joins.open_agg2 Tryd.underlying47 (by kernel_rfl) cellsId hv h
  obtain ⟨a, e0, rfl, wa⟩ := DataW.trod_int Tryd.underlying45 hy0
  obtain ⟨b, e1, rfl, wb⟩ := DataW.trod_int Tryd.underlying45 hy1
  simp at e0 e1
  subst e0 e1
  exact ⟨a, b, rfl, rfl, rfl, wa, wb⟩

end Go.Proofs.YthpminlfbjedpaaDoor

namespace Go.Proofs.YthpminlfbjedpaaDoor
open Go.ChangeShapes Go.WideShapes Go.ChangeAt Go.RowKit Go.Sort
set_option linter.unusedVariables false

/-- append to a row of the call's own, with what becomes of its block -/
theorem run_append_rowB {P : Program} (w : World) (base : Nat) (t ty e : TypeId) (i : TypeInfo) (z : Value) (size bytes : Nat) (ht : P.underlying t = some (.slice e)) (hi : P.info? e = some i) (hz : i.zero = some z)
    (hsize : i.size = size) (hby : i.bytes = bytes) (hzs : z.cells.size = size) (hsz : 0 < size)
    (v : Value) (n : Nat) (xs : List Value) (hown : w.ownsRow base e size v n xs)
    (A : Option Addr) (m c : Nat) (news : List Value) (hl : news.length = m * size) (hr : Row w A news) (h1 : ∀ u ∈ news, u.oneCell' = true)
    (h63 : n + m ≤ maxLen) (hbytes : (n + m) * bytes ≤ 140737488355328) (hbase : base ≤ w.heap.size) :
    ∃ v' w', (Builtin.append_ #[t, t] ty #[v, .slice A m c]).run P w = .ok v' w' ∧ w'.ownsRow base e size v' (n + m) (xs ++ news) ∧ w.grownBy w' v.ownBlock ∧ (v'.ownBlock = v.ownBlock ∨ v'.ownBlock = some w.heap.size) := by
  cases A with
  | none =>
    have h0 : news = [] := by
      cases news with
      | nil => rfl
      | cons u us => obtain ⟨b, o, e, _⟩ := hr (by simp); cases e
    subst h0
    have hm : m = 0 := by
      have := hl
      simp only [List.length_nil] at this
      rcases Nat.mul_eq_zero.1 this.symm with h | h
      · exact h
      · omega
    subst hm
    refine ⟨v, w, ?_, by simpa using hown, ⟨rfl, rfl, rfl, Nat.le_refl _, fun _ _ _ => rfl⟩, .inl rfl⟩
    rcases hown.2 with ⟨rfl, rfl⟩ | ⟨g, cap, cur, rfl, _, _, hnc, _⟩
    · simp [Builtin.append_, run_underlying ht, sizeOf, typeInfo, hi, Builtin.lenOf, Builtin.firstCells]
    · simp [Builtin.append_, run_underlying ht, sizeOf, typeInfo, hi, Builtin.lenOf, Builtin.firstCells, hnc, storeCells]
  | some ad =>
    obtain ⟨v', w', hrun, h2, h3, _, h5⟩ := run_append_own_at (P := P) w base t ty e i z size bytes ht hi hz hsize hby hzs hsz v n xs hown ad m c news hl (fun j u hu => by
      obtain ⟨b, o, e, hc⟩ := hr (by cases news <;> simp at hu ⊢)
      injection e with e
      subst e
      rw [add_at]
      exact hc j u hu) h1 h63 hbytes hbase
    exact ⟨v', w', hrun, h2, h3, h5⟩

/-- the cells of an item -/
def encI (x : It) : List Value := [Vu x.c, Vu x.k, Vu x.lc, Vu x.lk, Vu x.rc, Vu x.rk, .int .i32 x.ch]
abbrev itv (x : It) : Value := .agg #[.int .u32 x.c, .int .u32 x.k, .int .u32 x.lc, .int .u32 x.lk, .int .u32 x.rc, .int .u32 x.rk, .int .i32 x.ch]
theorem encI_len (p : It) : (encI p).length = 7 := rfl
theorem encI_one (p : It) : ∀ u ∈ encI p, u.oneCell' = true := by intro u hu; simp [encI] at hu; rcases hu with rfl | rfl | rfl | rfl | rfl | rfl | rfl <;> rfl
theorem infoI : (Tryd.prog.info? 56).map (fun i => (i.zero, i.size, i.bytes)) = some (some (.agg #[.int .u32 0, .int .u32 0, .int .u32 0, .int .u32 0, .int .u32 0, .int .u32 0, .int .i32 0]), 7, 28) := by kernel_rfl
/-- from that address on lie these -/
def ItS (w : World) (A : Option Addr) (l : List It) : Prop := Row w A (flat encI l)
theorem ItS.ext {w w' : World} {A : Option Addr} {l : List It} (h : ItS w A l) (hx : Ext w w') : ItS w' A l := Row.ext h hx
theorem ItS.nil (w : World) (A : Option Addr) : ItS w A [] := Row.nil w A
/-- the cells of one, from an address on -/
structure ItC (w : World) (b o : Nat) (x : It) : Prop where
  c0 : w.cell? ⟨b, o, none⟩ = some (Vu x.c)
  c1 : w.cell? ⟨b, o + 1, none⟩ = some (Vu x.k)
  c2 : w.cell? ⟨b, o + 2, none⟩ = some (Vu x.lc)
  c3 : w.cell? ⟨b, o + 3, none⟩ = some (Vu x.lk)
  c4 : w.cell? ⟨b, o + 4, none⟩ = some (Vu x.rc)
  c5 : w.cell? ⟨b, o + 5, none⟩ = some (Vu x.rk)
  c6 : w.cell? ⟨b, o + 6, none⟩ = some (.int .i32 x.ch)
theorem ItC.ext {w w' : World} {b o : Nat} {x : It} (h : ItC w b o x) (hx : Ext w w') : ItC w' b o x := ⟨hx.keep h.c0, hx.keep h.c1, hx.keep h.c2, hx.keep h.c3, hx.keep h.c4, hx.keep h.c5, hx.keep h.c6⟩
theorem ItS.at {w : World} {A : Option Addr} {l : List It} (h : ItS w A l) {k : Nat} (hk : k < l.length) : ∃ b o x, A = some ⟨b, o, none⟩ ∧ l[k]? = some x ∧ ItC w b (o + k * 7) x := by
  obtain ⟨x, hp⟩ : ∃ p, l[k]? = some p := ⟨l[k], List.getElem?_eq_getElem hk⟩
  obtain ⟨b, o, e, hc⟩ := Row.at h encI_len hp (by omega)
  exact ⟨b, o, x, e, hp, hc 0 _ rfl, hc 1 _ rfl, hc 2 _ rfl, hc 3 _ rfl, hc 4 _ rfl, hc 5 _ rfl, hc 6 _ rfl⟩
theorem ItS.take {w : World} {A : Option Addr} {l : List It} (h : ItS w A l) (k : Nat) : ItS w A (l.take k) := by
  unfold ItS; rw [flat_take encI_len]; exact Row.take h _
theorem ItS.cut {w : World} {A : Option Addr} {l : List It} (h : ItS w A l) {n cap k : Nat} (hn : l.length = n) (hc : n ≤ cap) (hk : k ≤ n) : ItS w (cutA A cap k 7) (l.drop k) := by
  unfold ItS; rw [flat_drop encI_len]; exact Row.cut h (n := n) (by rw [flat_len encI_len, hn]) hc hk
theorem ItS.new (w : World) (x : It) : ItS (w.alloc (.cells #[.int .u32 x.c, .int .u32 x.k, .int .u32 x.lc, .int .u32 x.lk, .int .u32 x.rc, .int .u32 x.rk, .int .i32 x.ch] 56)) (some ⟨w.heap.size, 0, none⟩) [x] := Row.new w #[.int .u32 x.c, .int .u32 x.k, .int .u32 x.lc, .int .u32 x.lk, .int .u32 x.rc, .int .u32 x.rk, .int .i32 x.ch] 56
theorem ItS.new2 (w : World) (o : Obj) (x : It) : ItS ((w.alloc o).alloc (.cells #[.int .u32 x.c, .int .u32 x.k, .int .u32 x.lc, .int .u32 x.lk, .int .u32 x.rc, .int .u32 x.rk, .int .i32 x.ch] 56)) (some ⟨w.heap.size + 1, 0, none⟩) [x] := by
  have h := ItS.new (w.alloc o) x
  rwa [show (w.alloc o).heap.size = w.heap.size + 1 by simp] at h
theorem fromI (A : Option Addr) (n cap k : Nat) (h1 : k ≤ n) (z : Int) (hz : z = k) (W : World) : (Instr.slice 52 (.slice A n cap) (some (.int .i64 z)) none none).run Tryd.prog W = .ok (.slice (cutA A cap k 7) (n - k) (cap - k)) W := by
  subst hz
  obtain ⟨i, hi, hz0, hz1, hz2⟩ := info_parts infoI
  have := run_from Tryd.underlying52 hi A n cap k W (by omega) (by omega)
  rw [hz1] at this
  exact this
theorem uptoI (A : Option Addr) (n cap k : Nat) (h1 : k ≤ cap) (z : Int) (hz : z = k) (W : World) : (Instr.slice 52 (.slice A n cap) none (some (.int .i64 z)) none).run Tryd.prog W = .ok (.slice A k cap) W := by
  subst hz
  obtain ⟨i, hi, hz0, hz1, hz2⟩ := info_parts infoI
  exact run_upto Tryd.underlying52 hi A n cap k W (by omega) (by omega)
/-- a row of the call's own -/
def OwnI (w W : World) (v : Value) (l : List It) : Prop := OwnG 56 7 w W v l.length (flat encI l)
theorem OwnI.nil (w W : World) : OwnI w W (.slice none 0 0) [] := OwnG.nil _ _ _ _
theorem OwnI.ext {w W W' : World} {v : Value} {l : List It} (h : OwnI w W v l) (hx : Ext W W') : OwnI w W' v l := OwnG.ext h hx
theorem OwnI.down {w0 w W : World} {v : Value} {l : List It} (h : OwnI w W v l) (hx : Ext w0 w) : OwnI w0 W v l := OwnG.down h hx
theorem OwnI.lt {w W : World} {v : Value} {l : List It} (h : OwnI w W v l) : ∀ k, v.ownBlock = some k → w.heap.size ≤ k ∧ k < W.heap.size := World.ownsRow.lt h
theorem OwnI.open {w W : World} {v : Value} {l : List It} (h : OwnI w W v l) : ∃ A c, v = .slice A l.length c ∧ l.length ≤ c ∧ ItS W A l := by
  obtain ⟨A, c, rfl, hc⟩ := OwnG.form h
  exact ⟨A, c, rfl, hc, OwnG.row h⟩
theorem OwnI.kept {w W W' : World} {v : Value} {l : List It} {row : Option Nat} (h : OwnI w W v l) (hg : W.grownBy W' row) (hn : v.ownBlock = none ∨ v.ownBlock ≠ row) : OwnI w W' v l := World.ownsRow.kept h hg hn
/-- these are told, in memory of the call's own -/
def RetI (w : World) (l : List It) (e : Ending) (w' : World) : Prop := ∃ v, e = .returned v ∧ OwnI w w' v l ∧ Ext w w'
theorem RetI.down {w0 w w' : World} {l : List It} {e : Ending} (h : RetI w l e w') (hx : Ext w0 w) : RetI w0 l e w' := by
  obtain ⟨v, h1, h2, h3⟩ := h
  exact ⟨v, h1, h2.down hx, hx.trans h3⟩

theorem wpList_append_I {w0 w : World} {ops : Array Oper} {rest : List Oper} {o : Oper} {a : Act} {Q : Exit → Act → World → Prop} (hgd : o.guard = none) (s x : Operand)
    (ho : o.op = .call { callee := .builtin .append, args := #[s, x], argTypes := #[52, 52] })
    (v : Value) (l : List It) (hs : a.eval s = v) (hown : OwnI w0 w v l) (hx : Ext w0 w)
    (A : Option Addr) (m c : Nat) (r : List It) (he : a.eval x = .slice A m c) (hm : r.length = m) (hr : ItS w A r) (hb : l.length + r.length ≤ 100000)
    (h : ∀ v' w', OwnI w0 w' v' (l ++ r) → Ext w0 w' → w.grownBy w' v.ownBlock → (v'.ownBlock = v.ownBlock ∨ v'.ownBlock = some w.heap.size) → wpList Tryd.prog ops Q rest (a.put o.dst v') w') : wpList Tryd.prog ops Q (o :: rest) a w := by
  refine wpList_plain hgd fun K hK => ?_
  obtain ⟨i, hi, hz0, hz1, hz2⟩ := info_parts infoI
  subst hm
  obtain ⟨v', w', hrun, h2, h3, h4⟩ := run_append_rowB (P := Tryd.prog) w w0.heap.size 52 o.type 56 i _ 7 28 Tryd.underlying52 hi hz0 hz1 hz2 rfl (by omega) v l.length _ hown A r.length c _ (flat_len encI_len r) hr (flat_one_cell encI_one r)
    (by unfold maxLen; omega) (by omega) hx.size
  unfold Oper.wp execOp
  simp only [ho, resolve, invoke, builtin, Sem.run_bind, Sem.run_pure, Result.andThen_ok, List.map_toArray, List.map_cons, List.map_nil, hs, he, hrun]
  refine hK _ _ (h v' w' ?_ (hx.grown h3 (OwnG.lt hown)) h3 h4)
  unfold OwnI OwnG
  rw [flat_append, List.length_append]
  exact h2

/-- the cells of a run -/
def encR (x : Rn) : List Value := [Vu x.c, Vu x.k, Vu x.lc, Vu x.lk, Vu x.rc, Vu x.rk, .string ⟨x.t.toArray⟩]
abbrev rnv (x : Rn) : Value := .agg #[.int .u32 x.c, .int .u32 x.k, .int .u32 x.lc, .int .u32 x.lk, .int .u32 x.rc, .int .u32 x.rk, .string ⟨x.t.toArray⟩]
theorem encR_len (p : Rn) : (encR p).length = 7 := rfl
theorem encR_one (p : Rn) : ∀ u ∈ encR p, u.oneCell' = true := by intro u hu; simp [encR] at hu; rcases hu with rfl | rfl | rfl | rfl | rfl | rfl | rfl <;> rfl
theorem infoR : (Tryd.prog.info? 49).map (fun i => (i.zero, i.size, i.bytes)) = some (some (.agg #[.int .u32 0, .int .u32 0, .int .u32 0, .int .u32 0, .int .u32 0, .int .u32 0, .string ⟨#[]⟩]), 7, 40) := by kernel_rfl
/-- from that address on lie these -/
def RnS (w : World) (A : Option Addr) (l : List Rn) : Prop := Row w A (flat encR l)
theorem RnS.ext {w w' : World} {A : Option Addr} {l : List Rn} (h : RnS w A l) (hx : Ext w w') : RnS w' A l := Row.ext h hx
theorem RnS.nil (w : World) (A : Option Addr) : RnS w A [] := Row.nil w A
/-- the cells of one, from an address on -/
structure RnC (w : World) (b o : Nat) (x : Rn) : Prop where
  c0 : w.cell? ⟨b, o, none⟩ = some (Vu x.c)
  c1 : w.cell? ⟨b, o + 1, none⟩ = some (Vu x.k)
  c2 : w.cell? ⟨b, o + 2, none⟩ = some (Vu x.lc)
  c3 : w.cell? ⟨b, o + 3, none⟩ = some (Vu x.lk)
  c4 : w.cell? ⟨b, o + 4, none⟩ = some (Vu x.rc)
  c5 : w.cell? ⟨b, o + 5, none⟩ = some (Vu x.rk)
  c6 : w.cell? ⟨b, o + 6, none⟩ = some (.string ⟨x.t.toArray⟩)
theorem RnC.ext {w w' : World} {b o : Nat} {x : Rn} (h : RnC w b o x) (hx : Ext w w') : RnC w' b o x := ⟨hx.keep h.c0, hx.keep h.c1, hx.keep h.c2, hx.keep h.c3, hx.keep h.c4, hx.keep h.c5, hx.keep h.c6⟩
theorem RnS.at {w : World} {A : Option Addr} {l : List Rn} (h : RnS w A l) {k : Nat} (hk : k < l.length) : ∃ b o x, A = some ⟨b, o, none⟩ ∧ l[k]? = some x ∧ RnC w b (o + k * 7) x := by
  obtain ⟨x, hp⟩ : ∃ p, l[k]? = some p := ⟨l[k], List.getElem?_eq_getElem hk⟩
  obtain ⟨b, o, e, hc⟩ := Row.at h encR_len hp (by omega)
  exact ⟨b, o, x, e, hp, hc 0 _ rfl, hc 1 _ rfl, hc 2 _ rfl, hc 3 _ rfl, hc 4 _ rfl, hc 5 _ rfl, hc 6 _ rfl⟩
theorem RnS.take {w : World} {A : Option Addr} {l : List Rn} (h : RnS w A l) (k : Nat) : RnS w A (l.take k) := by
  unfold RnS; rw [flat_take encR_len]; exact Row.take h _
theorem RnS.cut {w : World} {A : Option Addr} {l : List Rn} (h : RnS w A l) {n cap k : Nat} (hn : l.length = n) (hc : n ≤ cap) (hk : k ≤ n) : RnS w (cutA A cap k 7) (l.drop k) := by
  unfold RnS; rw [flat_drop encR_len]; exact Row.cut h (n := n) (by rw [flat_len encR_len, hn]) hc hk
theorem RnS.new (w : World) (x : Rn) : RnS (w.alloc (.cells #[.int .u32 x.c, .int .u32 x.k, .int .u32 x.lc, .int .u32 x.lk, .int .u32 x.rc, .int .u32 x.rk, .string ⟨x.t.toArray⟩] 49)) (some ⟨w.heap.size, 0, none⟩) [x] := Row.new w #[.int .u32 x.c, .int .u32 x.k, .int .u32 x.lc, .int .u32 x.lk, .int .u32 x.rc, .int .u32 x.rk, .string ⟨x.t.toArray⟩] 49
theorem RnS.new2 (w : World) (o : Obj) (x : Rn) : RnS ((w.alloc o).alloc (.cells #[.int .u32 x.c, .int .u32 x.k, .int .u32 x.lc, .int .u32 x.lk, .int .u32 x.rc, .int .u32 x.rk, .string ⟨x.t.toArray⟩] 49)) (some ⟨w.heap.size + 1, 0, none⟩) [x] := by
  have h := RnS.new (w.alloc o) x
  rwa [show (w.alloc o).heap.size = w.heap.size + 1 by simp] at h
theorem fromR (A : Option Addr) (n cap k : Nat) (h1 : k ≤ n) (z : Int) (hz : z = k) (W : World) : (Instr.slice 22 (.slice A n cap) (some (.int .i64 z)) none none).run Tryd.prog W = .ok (.slice (cutA A cap k 7) (n - k) (cap - k)) W := by
  subst hz
  obtain ⟨i, hi, hz0, hz1, hz2⟩ := info_parts infoR
  have := run_from Tryd.underlying22 hi A n cap k W (by omega) (by omega)
  rw [hz1] at this
  exact this
theorem uptoR (A : Option Addr) (n cap k : Nat) (h1 : k ≤ cap) (z : Int) (hz : z = k) (W : World) : (Instr.slice 22 (.slice A n cap) none (some (.int .i64 z)) none).run Tryd.prog W = .ok (.slice A k cap) W := by
  subst hz
  obtain ⟨i, hi, hz0, hz1, hz2⟩ := info_parts infoR
  exact run_upto Tryd.underlying22 hi A n cap k W (by omega) (by omega)
/-- a row of the call's own -/
def OwnR (w W : World) (v : Value) (l : List Rn) : Prop := OwnG 49 7 w W v l.length (flat encR l)
theorem OwnR.nil (w W : World) : OwnR w W (.slice none 0 0) [] := OwnG.nil _ _ _ _
theorem OwnR.ext {w W W' : World} {v : Value} {l : List Rn} (h : OwnR w W v l) (hx : Ext W W') : OwnR w W' v l := OwnG.ext h hx
theorem OwnR.down {w0 w W : World} {v : Value} {l : List Rn} (h : OwnR w W v l) (hx : Ext w0 w) : OwnR w0 W v l := OwnG.down h hx
theorem OwnR.lt {w W : World} {v : Value} {l : List Rn} (h : OwnR w W v l) : ∀ k, v.ownBlock = some k → w.heap.size ≤ k ∧ k < W.heap.size := World.ownsRow.lt h
theorem OwnR.open {w W : World} {v : Value} {l : List Rn} (h : OwnR w W v l) : ∃ A c, v = .slice A l.length c ∧ l.length ≤ c ∧ RnS W A l := by
  obtain ⟨A, c, rfl, hc⟩ := OwnG.form h
  exact ⟨A, c, rfl, hc, OwnG.row h⟩
theorem OwnR.kept {w W W' : World} {v : Value} {l : List Rn} {row : Option Nat} (h : OwnR w W v l) (hg : W.grownBy W' row) (hn : v.ownBlock = none ∨ v.ownBlock ≠ row) : OwnR w W' v l := World.ownsRow.kept h hg hn
/-- these are told, in memory of the call's own -/
def RetR (w : World) (l : List Rn) (e : Ending) (w' : World) : Prop := ∃ v, e = .returned v ∧ OwnR w w' v l ∧ Ext w w'
theorem RetR.down {w0 w w' : World} {l : List Rn} {e : Ending} (h : RetR w l e w') (hx : Ext w0 w) : RetR w0 l e w' := by
  obtain ⟨v, h1, h2, h3⟩ := h
  exact ⟨v, h1, h2.down hx, hx.trans h3⟩

theorem wpList_append_R {w0 w : World} {ops : Array Oper} {rest : List Oper} {o : Oper} {a : Act} {Q : Exit → Act → World → Prop} (hgd : o.guard = none) (s x : Operand)
    (ho : o.op = .call { callee := .builtin .append, args := #[s, x], argTypes := #[22, 22] })
    (v : Value) (l : List Rn) (hs : a.eval s = v) (hown : OwnR w0 w v l) (hx : Ext w0 w)
    (A : Option Addr) (m c : Nat) (r : List Rn) (he : a.eval x = .slice A m c) (hm : r.length = m) (hr : RnS w A r) (hb : l.length + r.length ≤ 100000)
    (h : ∀ v' w', OwnR w0 w' v' (l ++ r) → Ext w0 w' → w.grownBy w' v.ownBlock → (v'.ownBlock = v.ownBlock ∨ v'.ownBlock = some w.heap.size) → wpList Tryd.prog ops Q rest (a.put o.dst v') w') : wpList Tryd.prog ops Q (o :: rest) a w := by
  refine wpList_plain hgd fun K hK => ?_
  obtain ⟨i, hi, hz0, hz1, hz2⟩ := info_parts infoR
  subst hm
  obtain ⟨v', w', hrun, h2, h3, h4⟩ := run_append_rowB (P := Tryd.prog) w w0.heap.size 22 o.type 49 i _ 7 40 Tryd.underlying22 hi hz0 hz1 hz2 rfl (by omega) v l.length _ hown A r.length c _ (flat_len encR_len r) hr (flat_one_cell encR_one r)
    (by unfold maxLen; omega) (by omega) hx.size
  unfold Oper.wp execOp
  simp only [ho, resolve, invoke, builtin, Sem.run_bind, Sem.run_pure, Result.andThen_ok, List.map_toArray, List.map_cons, List.map_nil, hs, he, hrun]
  refine hK _ _ (h v' w' ?_ (hx.grown h3 (OwnG.lt hown)) h3 h4)
  unfold OwnR OwnG
  rw [flat_append, List.length_append]
  exact h2

/-- a block that holds one item -/
def BoxI (W : World) (g : Nat) (x : It) : Prop := W.heap[g]? = some (.cells #[Vu x.c, Vu x.k, Vu x.lc, Vu x.lk, Vu x.rc, Vu x.rk, .int .i32 x.ch] 56 (0, 0))
theorem BoxI.grown {W W' : World} {g : Nat} {x : It} {row : Option Nat} (h : BoxI W g x) (hg : W.grownBy W' row) (hn : some g ≠ row) : BoxI W' g x := by
  unfold BoxI at h ⊢
  rw [hg.block g (Array.getElem?_eq_some_iff.1 h).1 hn]; exact h
theorem BoxI.ext {W W' : World} {g : Nat} {x : It} (h : BoxI W g x) (hx : Ext W W') : BoxI W' g x := by
  unfold BoxI at h ⊢
  rw [RowKit.Below.block hx g (Array.getElem?_eq_some_iff.1 h).1]; exact h
theorem BoxI.cells {W : World} {g : Nat} {x : It} (h : BoxI W g x) : ItC W g 0 x :=
  ⟨by rw [cell_of_row W g 0 _ _ _ h]; rfl, by rw [cell_of_row W g (0 + 1) _ _ _ h]; rfl, by rw [cell_of_row W g (0 + 2) _ _ _ h]; rfl, by rw [cell_of_row W g (0 + 3) _ _ _ h]; rfl, by rw [cell_of_row W g (0 + 4) _ _ _ h]; rfl, by rw [cell_of_row W g (0 + 5) _ _ _ h]; rfl, by rw [cell_of_row W g (0 + 6) _ _ _ h]; rfl⟩
theorem BoxI.lt {W : World} {g : Nat} {x : It} (h : BoxI W g x) : g < W.heap.size := (Array.getElem?_eq_some_iff.1 h).1

end Go.Proofs.YthpminlfbjedpaaDoor

namespace Go.Proofs.YthpminlfbjedpaaDoor
open Go.ChangeShapes Go.WideShapes Go.ChangeAt Go.RowKit Go.Sort
set_option linter.unusedVariables false
attribute [local go_sem] World.cell?_alloc_some
attribute [local go_sem ↓] id_eql

def okB (c : Int) : Bool := decide (0 ≤ c ∧ c ≤ 1114111 ∧ (c < 55296 ∨ 57343 < c))
theorem aft_no {x : It} (h : x.c = 0 ∨ 4294967294 < x.k + 1) : ∃ e : Int, (e = 1 ∨ e = 4) ∧ aftId x.c x.k 1 4294967294 = (0, 0, e) := by
  unfold aftId
  by_cases h0 : x.c = 0
  · exact ⟨1, .inl rfl, by rw [if_pos (by omega)]⟩
  · exact ⟨4, .inr rfl, by rw [if_neg (by omega), if_pos (by omega)]⟩
theorem aft_yes {x : It} (h : x.c ≠ 0) (h1 : x.k + 1 ≤ 4294967294) : aftId x.c x.k 1 4294967294 = (x.c, x.k + 1, 0) := by
  unfold aftId
  rw [if_neg (by omega), if_neg (by omega)]
theorem on_no {x y : It} (h : x.c = 0 ∨ 4294967294 < x.k + 1) : onI x y = false := by unfold onI; rw [decide_eq_false_iff_not]; omega
theorem on_yes {x y : It} (h : x.c ≠ 0) (h1 : x.k + 1 ≤ 4294967294) : onI x y = (idEq y.c y.k x.c (x.k + 1) && idEq y.lc y.lk x.c x.k && idEq y.rc y.rk x.rc x.rk) := by
  unfold onI idEq
  rw [Bool.eq_iff_iff]
  simp
  omega

set_option maxRecDepth 100000 in
set_option maxHeartbeats 2000000 in
theorem goesOn_any (x y : It) (w : World) (h0 : 0 ≤ x.k) (h1 : x.k ≤ 4294967295) : Calls Tryd.prog 62 #[itv x, itv y] w fun e w' => e = .returned (.bool (onI x y)) ∧ Ext w w' := by
  by_cases hno : x.c = 0 ∨ 4294967294 < x.k + 1
  · obtain ⟨z, hz, ha⟩ := aft_no hno
    rw [on_no hno]
    clear hno
    have hcall := Lib.hid (fun W => after_err W ha (by omega) h0 h1 (by omega) (by omega) (by omega) (by omega))
    clear ha
    go_enter Tryd.func62, Tryd.ntmps62
    go_wp2_with fail
    refine (hcall.out _).mono ?_
    rintro e w1 ⟨rfl, x1⟩
    replace x1 := (((Ext.refl w).alloc _).alloc _).trans x1
    go_wp2
    go_ret
    exact ⟨rfl, x1.alloc _⟩
  · have hc0 : x.c ≠ 0 := by omega
    have hk0 : x.k + 1 ≤ 4294967294 := by omega
    rw [on_yes hc0 hk0]
    have hcall := Lib.hid (fun W => after_nil W (aft_yes hc0 hk0) h0 h1 (by omega) (by omega) (by omega) (by omega))
    clear hno hc0 hk0
    go_enter Tryd.func62, Tryd.ntmps62
    go_wp2_with fail
    refine (hcall.out _).mono ?_
    rintro e w1 ⟨rfl, x1⟩
    have a0 := x1.keep (p := ⟨w.heap.size, 0, none⟩) (v := Vu x.c) (by simp [go_sem])
    have a1 := x1.keep (p := ⟨w.heap.size, 1, none⟩) (v := Vu x.k) (by simp [go_sem])
    have a4 := x1.keep (p := ⟨w.heap.size, 4, none⟩) (v := Vu x.rc) (by simp [go_sem])
    have a5 := x1.keep (p := ⟨w.heap.size, 5, none⟩) (v := Vu x.rk) (by simp [go_sem])
    have b0 := x1.keep (p := ⟨w.heap.size + 1, 0, none⟩) (v := Vu y.c) (by simp [go_sem])
    have b1 := x1.keep (p := ⟨w.heap.size + 1, 1, none⟩) (v := Vu y.k) (by simp [go_sem])
    have b2 := x1.keep (p := ⟨w.heap.size + 1, 2, none⟩) (v := Vu y.lc) (by simp [go_sem])
    have b3 := x1.keep (p := ⟨w.heap.size + 1, 3, none⟩) (v := Vu y.lk) (by simp [go_sem])
    have b4 := x1.keep (p := ⟨w.heap.size + 1, 4, none⟩) (v := Vu y.rc) (by simp [go_sem])
    have b5 := x1.keep (p := ⟨w.heap.size + 1, 5, none⟩) (v := Vu y.rk) (by simp [go_sem])
    replace x1 := (((Ext.refl w).alloc _).alloc _).trans x1
    generalize w.heap.size + 1 = pb at *
    generalize w.heap.size = pa at *
    cases g1 : idEq y.c y.k x.c (x.k + 1) <;> cases g2 : idEq y.lc y.lk x.c x.k <;> cases g3 : idEq y.rc y.rk x.rc x.rk
    all_goals
      go_wp2
      go_ret
      exact ⟨by rw [g1, g2, g3]; rfl, x1.alloc _⟩

theorem afterRef_at {a b n l x y c : Int} (w : World) (h : aftId a b n l = (x, y, c)) (hb0 : 0 ≤ b) (hb1 : b ≤ 4294967295) (hn0 : -9223372036854775808 ≤ n) (hn1 : n ≤ 9223372036854775807) (hl0 : 0 ≤ l) (hl1 : l ≤ 4294967295) :
    Calls Tryd.prog 50 #[idv a b, Vi n, Vu l] w fun e w' => e = .returned (.tuple #[idv x y, Vi c]) ∧ Ext w w' := by
  have := afterRef_any a b n l w hb0 hb1 hn0 hn1 hl0 hl1
  rw [h] at this
  exact this
set_option maxRecDepth 100000 in
set_option maxHeartbeats 2000000 in
theorem onRef_any (x y : It) (w : World) (h0 : 0 ≤ x.k) (h1 : x.k ≤ 4294967295) : Calls Tryd.prog 35 #[itv y, itv x] w fun e w' => e = .returned (.bool (onI x y)) ∧ Ext w w' := by
  by_cases hno : x.c = 0 ∨ 4294967294 < x.k + 1
  · obtain ⟨z, hz, ha⟩ := aft_no hno
    rw [on_no hno]
    clear hno
    have hcall := Lib.hid (fun W => afterRef_at W ha h0 h1 (by omega) (by omega) (by omega) (by omega))
    clear ha
    go_enter Tryd.func35, Tryd.ntmps35
    go_wp2_with fail
    refine (hcall.out _).mono ?_
    rintro e w1 ⟨rfl, x1⟩
    replace x1 := (((Ext.refl w).alloc _).alloc _).trans x1
    have hz' : (z == 0) = false := by simp; omega
    clear hz
    go_wp2
    go_ret
    exact ⟨rfl, x1.alloc _⟩
  · have hc0 : x.c ≠ 0 := by omega
    have hk0 : x.k + 1 ≤ 4294967294 := by omega
    rw [on_yes hc0 hk0]
    have hcall := Lib.hid (fun W => afterRef_at W (aft_yes hc0 hk0) h0 h1 (by omega) (by omega) (by omega) (by omega))
    clear hno hc0 hk0
    go_enter Tryd.func35, Tryd.ntmps35
    go_wp2_with fail
    refine (hcall.out _).mono ?_
    rintro e w1 ⟨rfl, x1⟩
    have a0 := x1.keep (p := ⟨w.heap.size + 1, 0, none⟩) (v := Vu x.c) (by simp [go_sem])
    have a1 := x1.keep (p := ⟨w.heap.size + 1, 1, none⟩) (v := Vu x.k) (by simp [go_sem])
    have a4 := x1.keep (p := ⟨w.heap.size + 1, 4, none⟩) (v := Vu x.rc) (by simp [go_sem])
    have a5 := x1.keep (p := ⟨w.heap.size + 1, 5, none⟩) (v := Vu x.rk) (by simp [go_sem])
    have b0 := x1.keep (p := ⟨w.heap.size, 0, none⟩) (v := Vu y.c) (by simp [go_sem])
    have b1 := x1.keep (p := ⟨w.heap.size, 1, none⟩) (v := Vu y.k) (by simp [go_sem])
    have b2 := x1.keep (p := ⟨w.heap.size, 2, none⟩) (v := Vu y.lc) (by simp [go_sem])
    have b3 := x1.keep (p := ⟨w.heap.size, 3, none⟩) (v := Vu y.lk) (by simp [go_sem])
    have b4 := x1.keep (p := ⟨w.heap.size, 4, none⟩) (v := Vu y.rc) (by simp [go_sem])
    have b5 := x1.keep (p := ⟨w.heap.size, 5, none⟩) (v := Vu y.rk) (by simp [go_sem])
    replace x1 := (((Ext.refl w).alloc _).alloc _).trans x1
    generalize w.heap.size + 1 = pb at *
    generalize w.heap.size = pa at *
    cases g1 : idEq y.c y.k x.c (x.k + 1) <;> cases g2 : idEq y.lc y.lk x.c x.k <;> cases g3 : idEq y.rc y.rk x.rc x.rk
    all_goals
      go_wp2
      go_ret
      exact ⟨by rw [g1, g2, g3]; rfl, x1.alloc _⟩

end Go.Proofs.YthpminlfbjedpaaDoor

namespace Go.Proofs.YthpminlfbjedpaaDoor
open Go.ChangeShapes Go.WideShapes Go.ChangeAt Go.RowKit Go.Sort
set_option linter.unusedVariables false
attribute [local go_sem] World.cell?_alloc_some

theorem drop_atI {α : Type} {l : List α} {k : Nat} {p : α} (h : l[k]? = some p) : l.drop k = p :: l.drop (k + 1) := by
  obtain ⟨hk, e⟩ := List.getElem?_eq_some_iff.1 h
  rw [List.drop_eq_getElem_cons hk, e]
theorem tog_on {l : List It} {k : Nat} {x y : It} (hx : l[k]? = some x) (hy : l[k + 1]? = some y) : tog (l.drop k) = if onI x y then tog (l.drop (k + 1)) + 1 else 1 := by
  rw [drop_atI hx, tog, drop_atI hy]; rfl
theorem tog_last {l : List It} {k : Nat} {x : It} (hx : l[k]? = some x) (hl : l.length ≤ k + 1) : tog (l.drop k) = 1 := by
  rw [drop_atI hx, List.drop_eq_nil_of_le hl]; rfl
def wfIs (l : List It) : Prop := ∀ x ∈ l, wfI x
theorem wfIs.at {l : List It} (h : wfIs l) {k : Nat} {x : It} (hx : l[k]? = some x) : wfI x := h x (List.mem_of_getElem? hx)

/-- the cells of one, in whatever world has grown from this one -/
structure ItG (w : World) (b o : Nat) (x : It) : Prop where
  c0 : ∀ d os, (grow (redrawn w d) os).cell? ⟨b, o, none⟩ = some (Vu x.c)
  c1 : ∀ d os, (grow (redrawn w d) os).cell? ⟨b, o + 1, none⟩ = some (Vu x.k)
  c2 : ∀ d os, (grow (redrawn w d) os).cell? ⟨b, o + 2, none⟩ = some (Vu x.lc)
  c3 : ∀ d os, (grow (redrawn w d) os).cell? ⟨b, o + 3, none⟩ = some (Vu x.lk)
  c4 : ∀ d os, (grow (redrawn w d) os).cell? ⟨b, o + 4, none⟩ = some (Vu x.rc)
  c5 : ∀ d os, (grow (redrawn w d) os).cell? ⟨b, o + 5, none⟩ = some (Vu x.rk)
  c6 : ∀ d os, (grow (redrawn w d) os).cell? ⟨b, o + 6, none⟩ = some (.int .i32 x.ch)
theorem ItC.regrown {w : World} {b o : Nat} {x : It} (h : ItC w b o x) : ItG w b o x := ⟨cell_regrown h.c0, cell_regrown h.c1, cell_regrown h.c2, cell_regrown h.c3, cell_regrown h.c4, cell_regrown h.c5, cell_regrown h.c6⟩

set_option maxRecDepth 100000 in
set_option maxHeartbeats 2000000 in
theorem together_any (A : Option Addr) (n cap : Nat) (l : List It) (w : World) (hv : ItS w A l) (hn : l.length = n) (h0 : 0 < n) (hw : wfIs l) (hb : n ≤ 100000) :
    Calls Tryd.prog 58 #[.slice A n cap] w fun e w' => e = .returned (Vi (tog l : Int)) ∧ Ext w w' := by
  replace hn := Lib.hid hn
  replace hv := Lib.hid hv
  replace hw := Lib.hid hw
  go_enter Tryd.func58, Tryd.ntmps58
  go_wp2
  go_loopw [3] (fun i W => ∃ (k : Nat), k + 1 ≤ n ∧ i = Vi ((k : Int) + 1) ∧ Hid (tog l = k + tog (l.drop k)) ∧ Ext w W) (fun i _ => n - (intOf i).toNat)
  case atStart => exact ⟨0, by omega, rfl, Lib.hid (by simp), Ext.refl _⟩
  case round =>
    obtain ⟨k, hk, rfl, hrel, hx⟩ := hrel
    obtain ⟨b, o, x, rfl, hp, d⟩ := hv.out.at (k := k) (by rw [hn.out]; omega)
    by_cases hlt : k + 1 < n
    · obtain ⟨b', o', y, e, hq, d'⟩ := hv.out.at (k := k + 1) (by rw [hn.out]; omega)
      injection e with e
      injection e with e1 e2
      subst e1
      subst e2
      have hwf := hw.out.at hp
      have hd0 := Lib.hid (tog_on hp hq)
      clear hp hq
      obtain ⟨r0, r1, r2, r3, r4, r5, r6⟩ := (d.ext hx).regrown
      obtain ⟨s0, s1, s2, s3, s4, s5, s6⟩ := (d'.ext hx).regrown
      clear d d'
      have hsub : IntKind.i64.wrap ((k : Int) + 1 - 1) = (k : Int) := by rw [show ((k : Int) + 1 - 1) = (k : Int) by omega]; exact IntWalk.i64_in _ (by omega)
      have hg : decide ((k : Int) + 1 < (n : Int)) = true := by rw [decide_eq_true_eq]; omega
      have hi1 : (0 : Int) ≤ (k : Int) := by omega
      have hi2 : (k : Int) < (n : Int) := by omega
      have hi3 : (0 : Int) ≤ (k : Int) + 1 := by omega
      have hi4 : (k : Int) + 1 < (n : Int) := by omega
      have ht : ((k : Int) + 1).toNat = k + 1 := by omega
      have hcall := Lib.hid (fun W => goesOn_any x y W hwf.2.2.1 hwf.2.2.2.1)
      cases hon : onI x y with
      | true =>
        rw [hon] at hcall
        have hd := Lib.hid (show tog (l.drop k) = tog (l.drop (k + 1)) + 1 by rw [hd0.out, hon]; rfl)
        clear hon hwf hd0
        go_wp2_with fail
        refine wp_region_quiet_below (by kernel_rfl) (by kernel_rfl) ?_
        repeat go_big_quiet_step ((with_reducible exact Calls.in_regrown (hcall.out _)))
        refine wpQuiet_nil ?_
        intro _ hw'
        obtain ⟨⟨dq, osq⟩, hw''⟩ := hw'
        subst hw''
        go_wp2
        go_roundw
        case rel => exact ⟨k + 1, by omega, by go_num, Lib.hid (by rw [hrel.out, hd.out]; omega), hx.trans (Ext.regrown _ _ _)⟩
        case measure => simp [intOf]; omega
      | false =>
        rw [hon] at hcall
        have hd := Lib.hid (show tog (l.drop k) = 1 by rw [hd0.out, hon]; rfl)
        clear hon hwf hd0
        go_wp2_with fail
        refine wp_region_quiet_below (by kernel_rfl) (by kernel_rfl) ?_
        repeat go_big_quiet_step ((with_reducible exact Calls.in_regrown (hcall.out _)))
        refine wpQuiet_nil ?_
        intro _ hw'
        obtain ⟨⟨dq, osq⟩, hw''⟩ := hw'
        subst hw''
        go_wp2
        go_ret
        exact ⟨ret_i64 (a := (k : Int) + 1) (by rw [hrel.out, hd.out]; simp), hx.trans (Ext.regrown _ _ _)⟩
    · have hd := Lib.hid (tog_last hp (by rw [hn.out]; omega))
      clear hp d
      have hg : decide ((k : Int) + 1 < (n : Int)) = false := by rw [decide_eq_false_iff_not]; omega
      go_wp2_with fail
      refine wp_region_quiet_below (by kernel_rfl) (by kernel_rfl) ?_
      repeat go_big_quiet_step (fail)
      refine wpQuiet_nil ?_
      intro _ hw'
      obtain ⟨⟨dq, osq⟩, hw''⟩ := hw'
      subst hw''
      go_wp2
      go_ret
      exact ⟨ret_i64 (a := (k : Int) + 1) (by rw [hrel.out, hd.out]; simp), hx.trans (Ext.regrown _ _ _)⟩

end Go.Proofs.YthpminlfbjedpaaDoor

namespace Go.Proofs.YthpminlfbjedpaaDoor
open Go.ChangeShapes Go.WideShapes Go.ChangeAt Go.RowKit Go.Sort
set_option linter.unusedVariables false

instance : Inhabited It := ⟨⟨0, 0, 0, 0, 0, 0, 0⟩⟩
instance : Inhabited Rn := ⟨⟨0, 0, 0, 0, 0, 0, []⟩⟩
theorem bounds_i32 {a : Int} (h : (Lit.int .i32 a).wf = true) : -2147483648 ≤ a ∧ a ≤ 2147483647 := by
  simpa [Lit.wf, IntKind.min, IntKind.max, IntKind.signed, IntKind.bits] using h
theorem list7 {α : Type} {l : List α} (h : l.length = 7) : ∃ a b c d e f g, l = [a, b, c, d, e, f, g] := by
  match l, h with
  | [a, b, c, d, e, f, g], _ => exact ⟨a, b, c, d, e, f, g, rfl⟩
theorem list4 {α : Type} {l : List α} (h : l.length = 4) : ∃ a b c d, l = [a, b, c, d] := by
  match l, h with
  | [a, b, c, d], _ => exact ⟨a, b, c, d, rfl⟩

set_option maxRecDepth 100000 in
theorem item_cells {H : Type} {enc : TypeId × Value → H} {W : World} {base : Nat} {sp : Nat → Bool} {hd : Bool} (fuel : Nat) (cs : List Value) (x : DataW H × List MemPlace) (hl : cs.length = 7) (h : DataW.trod enc Tryd.prog W base sp hd fuel 56 cs = some x) :
    ∃ q, wfI q ∧ encI q = cs := by
  obtain ⟨v0, v1, v2, v3, v4, v5, v6, rfl⟩ := list7 hl
  obtain ⟨xs, k, hk, hxy, _, hxl, hfd⟩ := DataW.trod_struct Tryd.underlying56 h
  obtain ⟨y0, y1, y2, y3, rfl⟩ := list4 hxl
  have g0 := hfd 0 _ rfl
  have g1 := hfd 1 _ rfl
  have g2 := hfd 2 _ rfl
  have g3 := hfd 3 _ rfl
  have cu : Tryd.prog.cellsOf 21 = 1 := by kernel_rfl
  have ci : Tryd.prog.cellsOf 47 = 2 := by kernel_rfl
  simp [cu, ci] at g0 g1 g2 g3
  obtain ⟨a, b, rfl, rfl, a1, a2, b1, b2⟩ := id_cells g0
  obtain ⟨c, d, rfl, rfl, c1, c2, d1, d2⟩ := id_cells g1
  obtain ⟨e, f, rfl, rfl, e1, e2, f1, f2⟩ := id_cells g2
  obtain ⟨z, t0, _, wz⟩ := DataW.trod_int Tryd.underlying21 g3
  simp at t0
  subst t0
  have bz := bounds_i32 wz
  exact ⟨⟨a, b, c, d, e, f, z⟩, ⟨a1, a2, b1, b2, c1, c2, d1, d2, e1, e2, f1, f2, bz.1, bz.2⟩, rfl⟩
set_option maxRecDepth 100000 in
theorem run_cells {H : Type} {enc : TypeId × Value → H} {W : World} {base : Nat} {sp : Nat → Bool} {hd : Bool} (fuel : Nat) (cs : List Value) (x : DataW H × List MemPlace) (hl : cs.length = 7) (h : DataW.trod enc Tryd.prog W base sp hd fuel 49 cs = some x) :
    ∃ q, (wfR q ∧ q.t.length ≤ maxLen) ∧ encR q = cs := by
  obtain ⟨v0, v1, v2, v3, v4, v5, v6, rfl⟩ := list7 hl
  obtain ⟨xs, k, hk, hxy, _, hxl, hfd⟩ := DataW.trod_struct Tryd.underlying49 h
  obtain ⟨y0, y1, y2, y3, rfl⟩ := list4 hxl
  have g0 := hfd 0 _ rfl
  have g1 := hfd 1 _ rfl
  have g2 := hfd 2 _ rfl
  have g3 := hfd 3 _ rfl
  have cu : Tryd.prog.cellsOf 9 = 1 := by kernel_rfl
  have ci : Tryd.prog.cellsOf 47 = 2 := by kernel_rfl
  simp [cu, ci] at g0 g1 g2 g3
  obtain ⟨a, b, rfl, rfl, a1, a2, b1, b2⟩ := id_cells g0
  obtain ⟨c, d, rfl, rfl, c1, c2, d1, d2⟩ := id_cells g1
  obtain ⟨e, f, rfl, rfl, e1, e2, f1, f2⟩ := id_cells g2
  obtain ⟨z, t0, _, wz⟩ := DataW.trod_string Tryd.underlying9 g3
  simp at t0
  subst t0
  refine ⟨⟨a, b, c, d, e, f, z.data.toList⟩, ⟨⟨a1, a2, b1, b2, c1, c2, d1, d2, e1, e2, f1, f2⟩, ?_⟩, ?_⟩
  · simpa using wz
  · simp [encR]
set_option maxRecDepth 100000 in
theorem items_open {H : Type} {enc : TypeId × Value → H} {W : World} {base b0 : Nat} {sp : Nat → Bool} {hd : Bool} {r : Reach} {v : Value} {d : DataW H} {p : List MemPlace} (hv : Value.okWide Tryd.prog W r b0 52 v) (h : DataW.Trod enc Tryd.prog W base sp hd 52 v d p) :
    ∃ (A : Option Addr) (n cap : Nat) (l : List It), v = .slice A n cap ∧ l.length = n ∧ n ≤ cap ∧ n ≤ maxLen ∧ ItS W A l ∧ wfIs l :=
  structs_open encI_len (by omega) Tryd.underlying52 (by kernel_rfl) item_cells hv h
set_option maxRecDepth 100000 in
theorem runs_open {H : Type} {enc : TypeId × Value → H} {W : World} {base b0 : Nat} {sp : Nat → Bool} {hd : Bool} {r : Reach} {v : Value} {d : DataW H} {p : List MemPlace} (hv : Value.okWide Tryd.prog W r b0 22 v) (h : DataW.Trod enc Tryd.prog W base sp hd 22 v d p) :
    ∃ (A : Option Addr) (n cap : Nat) (l : List Rn), v = .slice A n cap ∧ l.length = n ∧ n ≤ cap ∧ n ≤ maxLen ∧ RnS W A l ∧ ∀ q ∈ l, wfR q ∧ q.t.length ≤ maxLen :=
  structs_open encR_len (by omega) Tryd.underlying22 (by kernel_rfl) run_cells hv h

end Go.Proofs.YthpminlfbjedpaaDoor

namespace Go.Proofs.YthpminlfbjedpaaDoor
open Go.ChangeShapes Go.WideShapes Go.ChangeAt Go.RowKit Go.Sort
set_option linter.unusedVariables false
attribute [local go_sem] World.cell?_alloc_some

/-- a batch's two lists, as values -/
abbrev batv (A : Option Addr) (n c : Nat) (B : Option Addr) (m d : Nat) : Value := .agg #[.slice A n c, .slice B m d]
def smallB (rs : List Rn) (m : Nat) : Bool := decide (rs.length ≤ 40 ∧ m ≤ 40) && rs.all fun r => decide (r.t.length ≤ 200)
theorem small_take {l : List Rn} {k : Nat} {r : Rn} (h : l[k]? = some r) (p : Rn → Bool) : (l.take (k + 1)).all p = ((l.take k).all p && p r) := by
  rw [List.take_add_one, h, List.all_append]
  simp
theorem small_no {l : List Rn} {r : Rn} (hm : r ∈ l) (h : 200 < r.t.length) (m : Nat) : smallB l m = false := by
  unfold smallB
  rw [show (l.all fun r => decide (r.t.length ≤ 200)) = false from ?_, Bool.and_false]
  rw [List.all_eq_false]
  exact ⟨r, hm, by simp; omega⟩

set_option maxRecDepth 100000 in
set_option maxHeartbeats 4000000 in
theorem small_any (A : Option Addr) (n c : Nat) (B : Option Addr) (m d : Nat) (rs : List Rn) (w : World) (hv : RnS w A rs) (hn : rs.length = n) :
    Calls Tryd.prog 6 #[batv A n c B m d] w fun e w' => e = .returned (Vi (if smallB rs m then 1 else 0)) ∧ Ext w w' := by
  obtain ⟨z, hz⟩ : ∃ z : Int, (if smallB rs m then 1 else 0) = z := ⟨_, rfl⟩
  rw [hz]
  replace hz := Lib.hid hz
  replace hn := Lib.hid hn
  replace hv := Lib.hid hv
  by_cases h1 : 40 < n
  · have hs := Lib.hid (show smallB rs m = false by unfold smallB; rw [hn.out, decide_eq_false (by omega), Bool.false_and])
    have g1 : decide ((40 : Int) < (n : Int)) = true := by rw [decide_eq_true_eq]; omega
    go_enter Tryd.func6, Tryd.ntmps6
    go_wp2
    go_ret
    exact ⟨ret_i64 (by rw [← hz.out, hs.out]; rfl), (Ext.refl _).alloc _⟩
  · have g1 : decide ((40 : Int) < (n : Int)) = false := by rw [decide_eq_false_iff_not]; omega
    by_cases h2 : 40 < m
    · have hs := Lib.hid (show smallB rs m = false by unfold smallB; rw [hn.out, decide_eq_false (by omega), Bool.false_and])
      have g2 : decide ((40 : Int) < (m : Int)) = true := by rw [decide_eq_true_eq]; omega
      go_enter Tryd.func6, Tryd.ntmps6
      go_wp2
      go_ret
      exact ⟨ret_i64 (by rw [← hz.out, hs.out]; rfl), (Ext.refl _).alloc _⟩
    · have g2 : decide ((40 : Int) < (m : Int)) = false := by rw [decide_eq_false_iff_not]; omega
      go_enter Tryd.func6, Tryd.ntmps6
      go_wp2
      have x0 : Ext w (w.alloc (.cells #[.slice A n c, .slice B m d] 25)) := (Ext.refl _).alloc _
      have a0 : (w.alloc (.cells #[.slice A n c, .slice B m d] 25)).cell? ⟨w.heap.size, 0, none⟩ = some (.slice A n c) := by simp [go_sem]
      generalize w.alloc (.cells #[.slice A n c, .slice B m d] 25) = w0 at *
      generalize w.heap.size = pa at *
      go_loopw [3] (fun i W => ∃ (k : Nat), k ≤ n ∧ i = Vi k ∧ Hid ((rs.take k).all (fun r => decide (r.t.length ≤ 200)) = true) ∧ W = w0) (fun i _ => n - (intOf i).toNat)
      case atStart => exact ⟨0, Nat.zero_le _, rfl, Lib.hid (by simp), rfl⟩
      case round =>
        obtain ⟨k, hk, rfl, hall, rfl⟩ := hrel
        by_cases hlt : k < n
        · obtain ⟨b, o, r, rfl, hp, dd⟩ := hv.out.at (k := k) (by rw [hn.out]; exact hlt)
          obtain ⟨c0, c1, c2, c3, c4, c5, c6⟩ := dd.ext x0
          have hst := Lib.hid (small_take hp fun r => decide (r.t.length ≤ 200))
          by_cases hbig : 200 < r.t.length
          · have hs := Lib.hid (small_no (List.mem_of_getElem? hp) hbig m)
            clear hp dd
            go_wp2
            go_ret
            exact ⟨ret_i64 (by rw [← hz.out, hs.out]; rfl), x0⟩
          · have hall2 := Lib.hid (show (rs.take (k + 1)).all (fun r => decide (r.t.length ≤ 200)) = true by rw [hst.out, hall.out, Bool.true_and]; exact decide_eq_true (by omega))
            clear hp dd
            go_wp2
            go_roundw
            case rel => exact ⟨k + 1, by omega, by go_num, hall2, trivial⟩
            case measure => simp [intOf]; omega
        · rw [show rs.take k = rs from List.take_of_length_le (by rw [hn.out]; omega)] at hall
          have hs := Lib.hid (show smallB rs m = true by unfold smallB; rw [hall.out, hn.out, Bool.and_true]; exact decide_eq_true (by omega))
          go_wp2
          go_ret
          exact ⟨ret_i64 (by rw [← hz.out, hs.out]; rfl), x0⟩

theorem pick_any (x : Int) (n : Nat) (w : World) (h0 : 0 < n) (hn : n ≤ 100000) (hx : -9223372036854775808 ≤ x ∧ x ≤ 9223372036854775807) :
    Calls Tryd.prog 15 #[Vi x, Vi n] w fun e w' => ∃ k : Nat, k < n ∧ e = .returned (Vi k) ∧ w = w' := by
  have hb0 := Int.tmod_lt_of_pos x (b := (n : Int)) (by omega)
  have hb1 : -(n : Int) < x.tmod n := by
    have := Int.lt_tmod_of_pos x (b := (n : Int)) (by omega)
    omega
  have hne : (n : Int) ≠ 0 := by omega
  have hne' : ¬ (n = 0) := by omega
  by_cases hneg : x.tmod n < 0
  · have hw : IntKind.i64.wrap (x.tmod n + n) = x.tmod n + n := IntWalk.i64_in _ (by omega)
    have hw0 : IntKind.i64.wrap (x.tmod n) = x.tmod n := IntWalk.i64_in _ (by omega)
    go_enter Tryd.func15, Tryd.ntmps15
    go_wp2
    go_ret
    exact ⟨(x.tmod n + n).toNat, by omega, ret_i64 (by omega), rfl⟩
  · have hw0 : IntKind.i64.wrap (x.tmod n) = x.tmod n := IntWalk.i64_in _ (by omega)
    go_enter Tryd.func15, Tryd.ntmps15
    go_wp2
    go_ret
    exact ⟨(x.tmod n).toNat, by omega, ret_i64 (by omega), rfl⟩

end Go.Proofs.YthpminlfbjedpaaDoor

namespace Go.Proofs.YthpminlfbjedpaaDoor
open Go.ChangeShapes Go.WideShapes Go.ChangeAt Go.RowKit Go.Sort
set_option linter.unusedVariables false

/-- the cells of a span -/
def encS (p : Int × Int × Int) : List Value := [Vu p.1, Vu p.2.1, Vu p.2.2]
abbrev spv (x y z : Int) : Value := .agg #[.int .u32 x, .int .u32 y, .int .u32 z]
theorem encS_len (p : Int × Int × Int) : (encS p).length = 3 := rfl
theorem encS_one (p : Int × Int × Int) : ∀ u ∈ encS p, u.oneCell' = true := by intro u hu; simp [encS] at hu; rcases hu with rfl | rfl | rfl <;> rfl
/-- a slice's address, from which spans lie -/
def SpS (w : World) (A : Option Addr) (l : List (Int × Int × Int)) : Prop := Row w A (flat encS l)
theorem SpS.ext {w w' : World} {A : Option Addr} {l : List (Int × Int × Int)} (h : SpS w A l) (hx : Ext w w') : SpS w' A l := Row.ext h hx
theorem SpS.nil (w : World) (A : Option Addr) : SpS w A [] := Row.nil w A
theorem SpS.at {w : World} {A : Option Addr} {l : List (Int × Int × Int)} (h : SpS w A l) {k : Nat} (hk : k < l.length) :
    ∃ b o x y z, A = some ⟨b, o, none⟩ ∧ l[k]? = some (x, y, z) ∧ w.cell? ⟨b, o + k * 3, none⟩ = some (Vu x) ∧ w.cell? ⟨b, o + k * 3 + 1, none⟩ = some (Vu y) ∧ w.cell? ⟨b, o + k * 3 + 2, none⟩ = some (Vu z) := by
  obtain ⟨⟨x, y, z⟩, hp⟩ : ∃ p, l[k]? = some p := ⟨l[k], List.getElem?_eq_getElem hk⟩
  obtain ⟨b, o, e, hc⟩ := Row.at h encS_len hp (by omega)
  exact ⟨b, o, x, y, z, e, hp, hc 0 _ rfl, hc 1 _ rfl, hc 2 _ rfl⟩
theorem wfS_at {l : List (Int × Int × Int)} (hw : wfS l) {k : Nat} {x y z : Int} (h : l[k]? = some (x, y, z)) : 0 ≤ x ∧ x ≤ 4294967295 ∧ 0 ≤ y ∧ y ≤ 4294967295 ∧ 0 ≤ z ∧ z ≤ 4294967295 := hw (x, y, z) (List.mem_of_getElem? h)

theorem empty_any (x y z : Int) (w : World) (hx : 0 ≤ x) : Calls Tryd.prog 48 #[spv x y z] w fun e w' => e = .returned (.bool (!goodB (x, y, z))) ∧ Ext w w' := by
  by_cases h0 : x = 0
  · subst h0
    have hg := Lib.hid (show (!goodB (0, y, z)) = true by simp [goodB])
    go_enter Tryd.func48, Tryd.ntmps48
    go_wp2
    go_ret
    exact ⟨ret_bool (a := true) hg.out.symm, (Ext.refl _).alloc _⟩
  · have h0' : (x == 0) = false := by simpa using h0
    have hg := Lib.hid (show (!goodB (x, y, z)) = decide (z ≤ y) by
      rw [Bool.eq_iff_iff]; simp [goodB]; omega)
    clear h0 hx
    go_enter Tryd.func48, Tryd.ntmps48
    go_wp2
    go_ret
    exact ⟨ret_bool (a := decide (z ≤ y)) hg.out.symm, (Ext.refl _).alloc _⟩

theorem apart_any (x y z x' y' z' : Int) (w : World) : Calls Tryd.prog 49 #[spv x y z, spv x' y' z'] w fun e w' => e = .returned (.bool (apartB (x, y, z) (x', y', z'))) ∧ Ext w w' := by
  by_cases h0 : x = x'
  · subst h0
    have hg := Lib.hid (show apartB (x, y, z) (x, y', z') = decide (z < y') by simp [apartB])
    go_enter Tryd.func49, Tryd.ntmps49
    go_wp2
    go_ret
    exact ⟨ret_bool (a := decide (z < y')) hg.out.symm, ((Ext.refl _).alloc _).alloc _⟩
  · have h0' : (x != x') = true := by simpa using h0
    have hg := Lib.hid (show apartB (x, y, z) (x', y', z') = decide (x < x') by simp [apartB, h0])
    clear h0
    go_enter Tryd.func49, Tryd.ntmps49
    go_wp2
    go_ret
    exact ⟨ret_bool (a := decide (x < x')) hg.out.symm, ((Ext.refl _).alloc _).alloc _⟩

/-- cmp.Or of two numbers -/
def orI (a b : Int) : Int := if a = 0 then b else a

end Go.Proofs.YthpminlfbjedpaaDoor

namespace Go.Proofs.YthpminlfbjedpaaDoor
open Go.ChangeShapes Go.WideShapes Go.ChangeAt Go.RowKit Go.Sort
set_option linter.unusedVariables false

set_option maxRecDepth 100000 in
/-- a slice of bytes, opened -/
theorem bytes_open {H : Type} {enc : TypeId × Value → H} {W : World} {base b0 : Nat} {sp : Nat → Bool} {hd : Bool} {r : Reach} {v : Value} {d : DataW H} {p : List MemPlace} (hv : Value.okWide Tryd.prog W r b0 26 v) (h : DataW.Trod enc Tryd.prog W base sp hd 26 v d p) :
    ∃ (A : Option Addr) (n cap : Nat) (l : List UInt8), v = .slice A n cap ∧ l.length = n ∧ n ≤ cap ∧ n ≤ maxLen ∧ Bys W A l := by
  obtain ⟨a, len, cap, rfl⟩ := okWide_slice Tryd.underlying26 hv
  obtain ⟨fuel, hf⟩ := h
  have hf' : DataW.trod enc Tryd.prog W base sp hd fuel 26 [.slice a len cap] = some (d, p) := hf
  have ce : Tryd.prog.cellsOf 5 = 1 := by kernel_rfl
  rcases Go.Deep.open_slice Tryd.underlying26 hf' with ⟨e, _⟩ | ⟨a', len', cap', m, n, D, Pl, e, _, hl, hm, hmm, _, hi⟩
  · injection e with e
    injection e with e1 e2 e3
    subst e1
    subst e2
    subst e3
    exact ⟨_, _, _, [], rfl, rfl, Nat.le_refl _, by omega, Bys.nil _ _⟩
  · injection e with e
    injection e with e1 e2 e3
    subst e1
    subst e2
    subst e3
    have hml : len ≤ m := by rw [hmm]; split <;> omega
    have hcell : ∀ i, i < len → ∃ q : UInt8, W.cell? (a'.add i) = some (Vb q) := by
      intro i hil
      obtain ⟨cs', h1, h2⟩ := hi i (by omega)
      rw [ce, Nat.mul_one] at h1
      obtain ⟨_, hlen, hc⟩ := World.cells?_some h1
      obtain ⟨x, t0, _, wx⟩ := DataW.trod_int Tryd.underlying5 h2
      have bx : 0 ≤ x ∧ x ≤ 255 := by simpa [Lit.wf, IntKind.min, IntKind.max, IntKind.signed, IntKind.bits] using wx
      have e0 := hc 0 (by omega)
      rw [Go.Deep.add_add, Nat.add_zero, t0] at e0
      refine ⟨UInt8.ofNat x.toNat, ?_⟩
      rw [e0, Vb, ofNat_val]
      have : ((x.toNat % 256 : Nat) : Int) = x := by omega
      rw [this]
      rfl
    obtain ⟨q, hq⟩ := Go.Deep.choose_lt hcell
    refine ⟨some a', len, cap, (List.range len).map q, rfl, by simp, hl, by omega, ?_⟩
    intro h0
    have hlen : 0 < len := by simpa using h0
    have g0 := hq 0 hlen
    obtain ⟨b, o, spot⟩ := a'
    have hspot : spot = none := by simpa [Addr.add] using World.cell?_spot g0
    subst hspot
    refine ⟨b, o, rfl, fun j u hu => ?_⟩
    have hj : j < len := by
      rcases Nat.lt_or_ge j len with k | k
      · exact k
      · rw [List.getElem?_eq_none (by simpa using k)] at hu; cases hu
    have := hq j hj
    rw [add_at] at this
    rw [this]
    simpa [List.getElem?_map, List.getElem?_range hj] using hu

end Go.Proofs.YthpminlfbjedpaaDoor

namespace Go.Proofs.YthpminlfbjedpaaDoor
open Go.ChangeShapes Go.WideShapes Go.ChangeAt Go.RowKit Go.Sort
set_option linter.unusedVariables false

set_option maxRecDepth 100000 in
theorem span_cells {H : Type} {enc : TypeId × Value → H} {W : World} {base : Nat} {sp : Nat → Bool} {hd : Bool} (fuel : Nat) (cs : List Value) (x : DataW H × List MemPlace) (hl : cs.length = 3) (h : DataW.trod enc Tryd.prog W base sp hd fuel 62 cs = some x) :
    ∃ q : Int × Int × Int, (0 ≤ q.1 ∧ q.1 ≤ 4294967295 ∧ 0 ≤ q.2.1 ∧ q.2.1 ≤ 4294967295 ∧ 0 ≤ q.2.2 ∧ q.2.2 ≤ 4294967295) ∧ encS q = cs := by
  obtain ⟨v0, v1, v2, rfl⟩ : ∃ a b c, cs = [a, b, c] := by
    match cs, hl with
    | [a, b, c], _ => exact ⟨a, b, c, rfl⟩
  obtain ⟨xs, k, hk, hxy, _, hxl, hfd⟩ := DataW.trod_struct Tryd.underlying62 h
  match xs, hxl with
  | [y0, y1, y2], _ =>
    have g0 := hfd 0 _ rfl
    have g1 := hfd 1 _ rfl
    have g2 := hfd 2 _ rfl
    have cu : Tryd.prog.cellsOf 45 = 1 := by kernel_rfl
    simp [cu] at g0 g1 g2
    obtain ⟨a, t0, _, wa⟩ := DataW.trod_int Tryd.underlying45 g0
    obtain ⟨b, t1, _, wb⟩ := DataW.trod_int Tryd.underlying45 g1
    obtain ⟨c, t2, _, wc⟩ := DataW.trod_int Tryd.underlying45 g2
    simp at t0 t1 t2
    subst t0
    subst t1
    subst t2
    have ba := bounds_u32 wa
    have bb := bounds_u32 wb
    have bc := bounds_u32 wc
    exact ⟨(a, b, c), ⟨ba.1, ba.2, bb.1, bb.2, bc.1, bc.2⟩, rfl⟩
instance : Inhabited (Int × Int × Int) := ⟨(0, 0, 0)⟩
set_option maxRecDepth 100000 in
theorem spansO_open {H : Type} {enc : TypeId × Value → H} {W : World} {base b0 : Nat} {sp : Nat → Bool} {hd : Bool} {r : Reach} {v : Value} {d : DataW H} {p : List MemPlace} (hv : Value.okWide Tryd.prog W r b0 23 v) (h : DataW.Trod enc Tryd.prog W base sp hd 23 v d p) :
    ∃ (A : Option Addr) (n cap : Nat) (l : List (Int × Int × Int)), v = .slice A n cap ∧ l.length = n ∧ n ≤ cap ∧ n ≤ maxLen ∧ SpS W A l ∧ wfS l :=
  structs_open encS_len (by omega) Tryd.underlying23 (by kernel_rfl) span_cells hv h
set_option maxRecDepth 100000 in
theorem trod_ofCell {H : Type} {enc : TypeId × Value → H} {W : World} {base : Nat} {sp : Nat → Bool} {hd : Bool} {T : TypeId} {k : Nat} {v : Value} {y : DataW H × List MemPlace} (hc : v.cells.toList = [v]) (h : DataW.trod enc Tryd.prog W base sp hd k T [v] = some y) : DataW.Trod enc Tryd.prog W base sp hd T v y.1 y.2 :=
  ⟨k, by rw [hc]; exact h⟩
set_option maxRecDepth 100000 in
theorem cell_slice {W : World} {r : Reach} {b0 : Nat} {T E : TypeId} {v : Value} (hT : Tryd.prog.underlying T = some (.slice E)) (h : Cell.okWide Tryd.prog W r b0 T v) : ∃ a n c, v = .slice a n c := by
  simp only [Cell.okWide, hT] at h
  cases v <;> simp_all [Cell.ok]
set_option maxRecDepth 100000 in
/-- a batch, opened -/
theorem batch_open {H : Type} {enc : TypeId × Value → H} {W : World} {base b0 : Nat} {sp : Nat → Bool} {hd : Bool} {r : Reach} {v : Value} {d : DataW H} {p : List MemPlace} (hv : Value.okWide Tryd.prog W r b0 25 v) (h : DataW.Trod enc Tryd.prog W base sp hd 25 v d p) :
    ∃ (A : Option Addr) (n c : Nat) (B : Option Addr) (m e : Nat) (rs : List Rn) (ds : List (Int × Int × Int)), v = batv A n c B m e ∧ rs.length = n ∧ n ≤ c ∧ RnS W A rs ∧ (∀ q ∈ rs, wfR q ∧ q.t.length ≤ maxLen) ∧ ds.length = m ∧ m ≤ e ∧ SpS W B ds ∧ wfS ds := by
  have hv0 := hv
  simp only [Value.okWide, Tryd.underlying25] at hv0
  obtain ⟨cs, rfl, hcs, ts, hts, _, hcell⟩ := hv0
  have c2 : Tryd.prog.cellsOf 25 = 2 := by kernel_rfl
  have t2 : Tryd.prog.cellTypes Tryd.prog.depth 25 = some [22, 23] := by kernel_rfl
  rw [t2] at hts
  injection hts with hts
  subst hts
  rw [c2] at hcs
  obtain ⟨a, b, rfl⟩ : ∃ a b, cs = #[a, b] := ⟨cs[0], cs[1], by
    apply Array.ext
    · simp [hcs]
    · intro i h1 h2
      have : i = 0 ∨ i = 1 := by simp at h2; omega
      rcases this with rfl | rfl <;> rfl⟩
  obtain ⟨u0, e0, k0⟩ := hcell 0 a rfl
  obtain ⟨u1, e1, k1⟩ := hcell 1 b rfl
  have e0' : u0 = 22 := by simpa using e0.symm
  have e1' : u1 = 23 := by simpa using e1.symm
  subst e0'
  subst e1'
  obtain ⟨a1, n1, c1, rfl⟩ := cell_slice Tryd.underlying22 k0
  obtain ⟨a2, n2, c2', rfl⟩ := cell_slice Tryd.underlying23 k1
  obtain ⟨fuel, hf⟩ := h
  have hf' : DataW.trod enc Tryd.prog W base sp hd fuel 25 [.slice a1 n1 c1, .slice a2 n2 c2'] = some (d, p) := hf
  obtain ⟨y0, y1, k, _, _, g0, g1⟩ := trod_struct2 Tryd.underlying25 hf'
  have cr : Tryd.prog.cellsOf 22 = 1 := by kernel_rfl
  have cp : Tryd.prog.cellsOf 23 = 1 := by kernel_rfl
  simp [cr, cp] at g0 g1
  have w0 : Value.okWide Tryd.prog W r b0 22 (.slice a1 n1 c1) := by simp only [Value.okWide, Tryd.underlying22]; exact k0
  have w1 : Value.okWide Tryd.prog W r b0 23 (.slice a2 n2 c2') := by simp only [Value.okWide, Tryd.underlying23]; exact k1
  obtain ⟨A, n, c, rs, e, hn, hc, _, hR, hw⟩ := runs_open w0 (trod_ofCell rfl g0)
  obtain ⟨B, m, e', ds, e2, hm, hd2, _, hS, hwd⟩ := spansO_open w1 (trod_ofCell rfl g1)
  rw [e, e2]
  exact ⟨A, n, c, B, m, e', rs, ds, rfl, hn, hc, hR, hw, hm, hd2, hS, hwd⟩

end Go.Proofs.YthpminlfbjedpaaDoor

namespace Go.Proofs.YthpminlfbjedpaaDoor
open Go.ChangeShapes Go.WideShapes Go.ChangeAt Go.RowKit Go.Sort
set_option linter.unusedVariables false

/-- the number that the first eight bytes spell -/
def wordOf (l : List UInt8) : Nat := Lib.leNat (l.take 8)
theorem wordOf_lt (l : List UInt8) : wordOf l < 18446744073709551616 := by
  have h := Lib.leNat_lt (l.take 8)
  refine Nat.lt_of_lt_of_le h ?_
  calc 256 ^ (l.take 8).length ≤ 256 ^ 8 := Nat.pow_le_pow_right (by omega) (by rw [List.length_take]; omega)
    _ = 18446744073709551616 := by rfl
theorem wordOf_asc {l : List UInt8} (h : 8 ≤ l.length) : wordOf l &&& 9259542123273814144 = 0 ↔ ∀ b ∈ l.take 8, b.toNat < 128 := by
  have h8 : (l.take 8).length = 8 := by rw [List.length_take]; omega
  have := Lib.leNat_mask (l.take 8)
  rw [h8, Lib.maskN8] at this
  exact this

set_option maxHeartbeats 8000000 in
set_option maxRecDepth 100000 in
theorem word_any (b o n c : Nat) (l : List UInt8) (w : World) (hb : Bys w (some ⟨b, o, none⟩) l) (hl : l.length = n) (h8 : 8 ≤ n) (hn : n ≤ 30000) :
    Calls Tryd.prog 68 #[.slice (some ⟨b, o, none⟩) n c] w fun e w' => e = .returned (.int .u64 (wordOf l)) ∧ ∃ q, w' = w.drewN q := by
  have c0 := hb.all 0 (by omega)
  have c1 := hb.all 1 (by omega)
  have c2 := hb.all 2 (by omega)
  have c3 := hb.all 3 (by omega)
  have c4 := hb.all 4 (by omega)
  have c5 := hb.all 5 (by omega)
  have c6 := hb.all 6 (by omega)
  have c7 := hb.all 7 (by omega)
  rw [Nat.add_zero] at c0
  have hw : wordOf l = Lib.leNat [l.getD 0 0, l.getD 1 0, l.getD 2 0, l.getD 3 0, l.getD 4 0, l.getD 5 0, l.getD 6 0, l.getD 7 0] := by
    unfold wordOf
    subst hl
    match l, h8 with
    | a0 :: a1 :: a2 :: a3 :: a4 :: a5 :: a6 :: a7 :: r, _ => simp
  rw [hw]
  clear hw hb hl
  have t0 := (l.getD 0 0).toNat_lt
  have t1 := (l.getD 1 0).toNat_lt
  have t2 := (l.getD 2 0).toNat_lt
  have t3 := (l.getD 3 0).toNat_lt
  have t4 := (l.getD 4 0).toNat_lt
  have t5 := (l.getD 5 0).toNat_lt
  have t6 := (l.getD 6 0).toNat_lt
  have t7 := (l.getD 7 0).toNat_lt
  generalize l.getD 0 0 = x0 at *
  generalize l.getD 1 0 = x1 at *
  generalize l.getD 2 0 = x2 at *
  generalize l.getD 3 0 = x3 at *
  generalize l.getD 4 0 = x4 at *
  generalize l.getD 5 0 = x5 at *
  generalize l.getD 6 0 = x6 at *
  generalize l.getD 7 0 = x7 at *
  have hv : ((Lib.leNat [x0, x1, x2, x3, x4, x5, x6, x7] : Nat) : Int) = (x0.toNat : Int) + (x1.toNat : Int) * 256 + (x2.toNat : Int) * 65536 + (x3.toNat : Int) * 16777216 + (x4.toNat : Int) * 4294967296 + (x5.toNat : Int) * 1099511627776 + (x6.toNat : Int) * 281474976710656 + (x7.toNat : Int) * 72057594037927936 := by
    simp only [Lib.leNat]
    push_cast
    omega
  go_enter Tryd.func68, Tryd.ntmps68
  go_wp2
  go_quiet (fail)
  go_wp2
  go_ret
  refine ⟨?_, _, rfl⟩
  simp (disch := omega) only [u64_wrap_id, u64_or8, u64_or16, u64_or24, u64_or32, u64_or40, u64_or48, u64_or56]
  rw [hv]
  rfl

end Go.Proofs.YthpminlfbjedpaaDoor
