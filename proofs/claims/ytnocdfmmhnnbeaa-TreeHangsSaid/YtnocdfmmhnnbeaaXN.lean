/-
  Several texts of this seat in one file, each in the namespace again; no claim stands here.
-/
import Derived.Test.YtnocdfmmhnnbeaaRows
import Derived.WalkKit
import Derived.ProofKit
import Derived.OpenShut
import Derived.Lib.SmallJoins
import Derived.Lib.Hide
import Derived.Lib.QuietBelow
import Derived.BigQuiet
import Derived.LaidEql
import Derived.Deep.RegionHeld
import Derived.Maps.AppendAt
import Derived.Deep.AppendLies
import Derived.OwnWalk
import Derived.Laws.OwnMore
import Derived.Laws.MakeOwn
import Derived.Laws.IdiomStrings
import Derived.Lib.AppendStr
import Derived.Lib.BufferRead
import Derived.Deep.QuietTactic
import Derived.Deep.LoopGhost
import Derived.RegionTactic
import Derived.IntWalk
import Derived.Deep.OwnRows
import Derived.Orders
import Derived.Test.YtnocdfmmhnnbeaaWMath
import Derived.Test.YtnocdfmmhnnbeaaNMath
import Derived.Test.YtnocdfmmhnnbeaaTWalk
import Derived.Test.YtnocdfmmhnnbeaaTLen
namespace Go.Proofs.Ytnocdfmmhnnbeaa
open Go.ChangeShapes Go.WideShapes Go.ChangeAt Go.RowKit Go.Sort
set_option linter.unusedVariables false
set_option linter.unusedSimpArgs false

/-- nothing that was there has turned -/
def Ext (w w' : World) : Prop := Below w.heap.size w w'

theorem Ext.refl (w : World) : Ext w w := Below.refl _ _
theorem Ext.size {a b : World} (h : Ext a b) : a.heap.size ≤ b.heap.size := RowKit.Below.size h
theorem Ext.trans {a b c : World} (h : Ext a b) (k : Ext b c) : Ext a c := Below.trans h (Below.mono k h.size)
theorem Ext.alloc {a w : World} (h : Ext a w) (o : Obj) : Ext a (w.alloc o) := Below.alloc h h.size o
theorem Ext.drew {a w : World} (h : Ext a w) : Ext a w.drew := Below.drew h
theorem Ext.drewN {a w : World} (h : Ext a w) (n : Nat) : Ext a (w.drewN n) := ⟨RowKit.Below.os (w' := w) h, RowKit.Below.tape (w' := w) h, RowKit.Below.output (w' := w) h, RowKit.Below.size (w' := w) h, RowKit.Below.block (w' := w) h⟩
theorem Ext.setCell {a w : World} (h : Ext a w) {p : Addr} (hp : a.heap.size ≤ p.block) (u : Value) : Ext a (w.setCell p u) := Below.setCell h hp u
theorem Ext.cells {W w1 : World} (hb : Ext W w1) : (∀ b o, b < W.heap.size → w1.cell? ⟨b, o, none⟩ = W.cell? ⟨b, o, none⟩) ∧ (∀ b o, b < W.heap.size → w1.frozen? ⟨b, o, none⟩ = W.frozen? ⟨b, o, none⟩) :=
  ⟨fun b o h => RowKit.Below.cell (p := ⟨b, o, none⟩) hb h, fun b o h => RowKit.Below.frozen (p := ⟨b, o, none⟩) hb h⟩

theorem Ext.keep {W w1 : World} (h : Ext W w1) {p : Addr} {v : Value} (hc : W.cell? p = some v) : w1.cell? p = some v := by
  rw [RowKit.Below.cell h (World.block_lt_of_cell? W p hc)]; exact hc
theorem Ext.thaw {W w1 : World} (h : Ext W w1) {p : Addr} {v : Value} (hc : W.cell? p = some v) (hf : W.frozen? p = false) : w1.frozen? p = false := by
  rw [RowKit.Below.frozen h (World.block_lt_of_cell? W p hc)]; exact hf
theorem Ext.lt {W w1 : World} (h : Ext W w1) {n : Nat} (hn : n < W.heap.size) : n < w1.heap.size := Nat.lt_of_lt_of_le hn h.size

theorem Calls.in_regrown {P : Program} {f : FuncId} {args : Array Value} {w : World} {d : Nat} {os : Array Obj} {v : Value}
    (h : Calls P f args (grow (redrawn w d) os) fun e w' => e = .returned v ∧ Ext (grow (redrawn w d) os) w') : Calls P f args (grow (redrawn w d) os) fun e w'' => e = .returned v ∧ ∃ p : Regrown, w'' = grow (redrawn w p.d) p.os := Calls.regrown_of h
theorem Calls.same_regrown {P : Program} {f : FuncId} {args : Array Value} {w : World} {d : Nat} {os : Array Obj} {v : Value}
    (h : Calls P f args (grow (redrawn w d) os) fun e w' => e = .returned v ∧ grow (redrawn w d) os = w') : Calls P f args (grow (redrawn w d) os) fun e w'' => e = .returned v ∧ ∃ p : Regrown, w'' = grow (redrawn w p.d) p.os :=
  Calls.in_regrown (h.mono fun e w' hh => ⟨hh.1, by rw [← hh.2]; exact Ext.refl _⟩)
theorem Ext.regrown (w : World) (d : Nat) (os : Array Obj) : Ext w (grow (redrawn w d) os) := below_regrown w d os

abbrev Vu (n : Int) : Value := .int .u32 n
abbrev Vi (n : Int) : Value := .int .i64 n
abbrev idv (a b : Int) : Value := .agg #[.int .u32 a, .int .u32 b]
theorem ret_i64 {a b : Int} (h : a = b) : Ending.returned (.int .i64 a) = .returned (.int .i64 b) := by rw [h]
theorem ret_u32 {a b : Int} (h : a = b) : Ending.returned (.int .u32 a) = .returned (.int .u32 b) := by rw [h]
theorem ret_bool {a b : Bool} (h : a = b) : Ending.returned (.bool a) = .returned (.bool b) := by rw [h]
theorem ret_ib {a a' : Int} {b b' : Bool} (h : a = a') (g : b = b') : Ending.returned (.tuple #[.int .i64 a, .bool b]) = .returned (.tuple #[.int .i64 a', .bool b']) := by rw [h, g]

/-- arguments read as they did, all of them -/
theorem reads_on {H : Type} {enc : TypeId × Value → H} {P : Program} (hl : laidOutB P = true) {W W' : World} (hx : Ext W W') : ∀ (ts : List TypeId) (vs : List Value) (ds : List (DataW H)) (ps : List MemPlace),
    (∀ t ∈ ts, P.readableRec t = true ∧ t < P.types.size) → DataW.TrodAll enc P W 0 (fun _ => true) true ts vs ds ps → (∀ x ∈ ps, x.block < W.heap.size) → DataW.TrodAll enc P W' 0 (fun b => decide (b < W.heap.size)) true ts vs ds ps := by
  intro ts
  induction ts with
  | nil => intro vs ds ps _ h _; cases vs <;> cases ds <;> first | exact h | exact h.elim
  | cons t ts ih =>
    intro vs ds ps ht h hp
    cases vs with
    | nil => exact h.elim
    | cons v vs =>
      cases ds with
      | nil => exact h.elim
      | cons d ds =>
        obtain ⟨p, q, h1, h2, rfl⟩ := h
        have t1 := ht t (List.mem_cons_self ..)
        exact ⟨p, q, RowKit.Below.trod hl t1.1 t1.2 h1 hx (fun x hx' => hp x (List.mem_append_left _ hx')), ih vs ds q (fun t' ht' => ht t' (List.mem_cons_of_mem _ ht')) h2 (fun x hx' => hp x (List.mem_append_right _ hx')), rfl⟩

/-- a law's last step: it answered true, and nothing that was there has turned -/
theorem law_post {H : Type} {enc : TypeId × Value → H} {P : Program} {f : Func} {s : ChangeSpec} {W W' : World} {args : Array Value} {ds gs : List (DataW H)} {before : List MemPlace} {tb : TypeId}
    (hW : DataW.Whole enc P f.params.toList s.vars false W args.toList ds gs before) (hl : laidOutB P = true) (hts : ∀ t ∈ f.params.toList, P.readableRec t = true ∧ t < P.types.size)
    (hvars : s.vars = []) (hr : (s.fn H (ds ++ gs)).results = [.lit (.bool true)]) (ha : (s.fn H (ds ++ gs)).args = ds) (hv : (s.fn H (ds ++ gs)).vars = []) (hx : Ext W W')
    (hres : f.resultTypes = #[tb]) (hb : P.underlying tb = some .bool) : s.post enc P f false true false false W args (.bool true) W' := by
  have hlt : ∀ p ∈ before, p.block < W.heap.size := fun p hp => hW.lt p hp
  have hW' := hW
  obtain ⟨p, q, hA, hV, hpq, _, _⟩ := hW
  have hq : q = [] := by
    rw [hvars] at hV
    cases gs with
    | nil => exact hV
    | cons g gs => exact hV.elim
  subst hq
  rw [List.append_nil] at hpq
  subst hpq
  refine ⟨ds, gs, before, [], before, [], hW', ?_, ?_, ?_, ?_, fun h => by cases h⟩
  · rw [hr, hres]; exact trodAll_mk1 (shut_bool hb true)
  · rw [ha]; exact reads_on hl hx _ _ _ _ hts hA hlt
  · rw [hv, hvars]; rfl
  · exact World.keptBut_mono (fun p hp => ⟨hp, .inr (.inl hp)⟩) (RowKit.Below.frame hx (· ∈ before))

theorem own : ownKnob Try.prog.godebug = Option.none := by kernel_rfl
theorem laid : laidOutB Try.prog = true := by kernel_rfl

theorem bounds_u32 {a : Int} (h : (Lit.int .u32 a).wf = true) : 0 ≤ a ∧ a ≤ 4294967295 := by
  simpa [Lit.wf, IntKind.min, IntKind.max, IntKind.signed, IntKind.bits] using h
theorem bounds_i64 {a : Int} (h : (Lit.int .i64 a).wf = true) : -9223372036854775808 ≤ a ∧ a ≤ 9223372036854775807 := by
  simpa [Lit.wf, IntKind.min, IntKind.max, IntKind.signed, IntKind.bits] using h

end Go.Proofs.Ytnocdfmmhnnbeaa

namespace Go.Proofs.Ytnocdfmmhnnbeaa
open Go.ChangeShapes Go.WideShapes Go.ChangeAt Go.RowKit Go.Sort
set_option linter.unusedVariables false
set_option linter.unusedSimpArgs false

theorem add_at (b o n : Nat) : (⟨b, o, none⟩ : Addr).add n = ⟨b, o + n, none⟩ := by unfold Addr.add; split <;> simp_all

/-- from that address on lie these cells -/
def Row (w : World) (A : Option Addr) (xs : List Value) : Prop :=
  0 < xs.length → ∃ b o, A = some ⟨b, o, none⟩ ∧ ∀ (j : Nat) (u : Value), xs[j]? = some u → w.cell? ⟨b, o + j, none⟩ = some u

theorem Row.nil (w : World) (A : Option Addr) : Row w A [] := fun h => absurd h (by simp)
theorem Row.ext {w w' : World} {A : Option Addr} {xs : List Value} (h : Row w A xs) (hx : Ext w w') : Row w' A xs := fun h0 => by
  obtain ⟨b, o, e, hc⟩ := h h0
  exact ⟨b, o, e, fun j u hu => hx.keep (hc j u hu)⟩
theorem Row.take {w : World} {A : Option Addr} {xs : List Value} (h : Row w A xs) (k : Nat) : Row w A (xs.take k) := fun h0 => by
  obtain ⟨b, o, e, hc⟩ := h (by simp at h0; omega)
  refine ⟨b, o, e, fun j u hu => hc j u ?_⟩
  rw [List.getElem?_take] at hu
  split at hu
  · exact hu
  · cases hu
theorem Row.drop {w : World} {b o : Nat} {xs : List Value} (h : Row w (some ⟨b, o, none⟩) xs) (k : Nat) : Row w (some ⟨b, o + k, none⟩) (xs.drop k) := fun h0 => by
  obtain ⟨b', o', e, hc⟩ := h (by simp at h0; omega)
  injection e with e
  injection e with e1 e2 e3
  subst e1
  subst e2
  refine ⟨_, _, rfl, fun j u hu => ?_⟩
  rw [List.getElem?_drop] at hu
  rw [Nat.add_assoc]
  exact hc _ u hu
theorem Row.own {w : World} {base : Nat} {e : TypeId} {size : Nat} {A : Option Addr} {n c : Nat} {xs : List Value} (h : w.ownsRow base e size (.slice A n c) n xs) : Row w A xs := fun h0 => by
  have hn : 0 < n := by
    rcases Nat.eq_zero_or_pos n with h1 | h1
    · subst h1; have := h.1; omega
    · exact h1
  obtain ⟨g, cap, hv, _, hlt⟩ := h.form hn
  have hA : A = some ⟨g, 0, none⟩ := by injection hv
  subst hA
  refine ⟨g, 0, rfl, fun j u hu => ?_⟩
  rw [← add_at]
  exact h.cells (g := g) rfl j u hu

/-- elements of some cells each, one behind the other -/
def flat {α : Type} (enc : α → List Value) (l : List α) : List Value := l.flatMap enc
theorem flat_nil {α : Type} (enc : α → List Value) : flat enc [] = [] := rfl
theorem flat_cons {α : Type} (enc : α → List Value) (a : α) (l : List α) : flat enc (a :: l) = enc a ++ flat enc l := by simp [flat]
theorem flat_append {α : Type} (enc : α → List Value) (l m : List α) : flat enc (l ++ m) = flat enc l ++ flat enc m := by simp [flat]
theorem flat_one {α : Type} (enc : α → List Value) (a : α) : flat enc [a] = enc a := by simp [flat]
section
variable {α : Type} {enc : α → List Value} {s : Nat}
theorem flat_len (hs : ∀ a, (enc a).length = s) : ∀ l : List α, (flat enc l).length = l.length * s
  | [] => by simp [flat]
  | a :: l => by rw [flat_cons, List.length_append, hs, flat_len hs l, List.length_cons, Nat.succ_mul, Nat.add_comm]
theorem flat_at (hs : ∀ a, (enc a).length = s) : ∀ {l : List α} {k : Nat} {a : α} {j : Nat}, l[k]? = some a → j < s → (flat enc l)[k * s + j]? = (enc a)[j]?
  | [], k, a, j, h, _ => by simp at h
  | x :: l, 0, a, j, h, hj => by
    have e : x = a := by simpa using h
    subst e
    rw [flat_cons, Nat.zero_mul, Nat.zero_add, List.getElem?_append_left (by rw [hs]; exact hj)]
  | x :: l, k + 1, a, j, h, hj => by
    rw [flat_cons, List.getElem?_append_right (by rw [hs, Nat.succ_mul]; omega), hs, show (k + 1) * s + j - s = k * s + j by rw [Nat.succ_mul]; omega]
    exact flat_at hs (by simpa using h) hj
theorem flat_take (hs : ∀ a, (enc a).length = s) : ∀ (l : List α) (k : Nat), flat enc (l.take k) = (flat enc l).take (k * s)
  | [], k => by simp [flat]
  | x :: l, 0 => by simp [flat]
  | x :: l, k + 1 => by
    rw [List.take_succ_cons, flat_cons, flat_cons, flat_take hs l k, List.take_append, hs, show (k + 1) * s - s = k * s by rw [Nat.succ_mul]; omega, List.take_of_length_le (l := enc x) (by rw [hs, Nat.succ_mul]; omega)]
theorem flat_drop (hs : ∀ a, (enc a).length = s) : ∀ (l : List α) (k : Nat), flat enc (l.drop k) = (flat enc l).drop (k * s)
  | [], k => by simp [flat]
  | x :: l, 0 => by simp [flat]
  | x :: l, k + 1 => by
    rw [List.drop_succ_cons, flat_cons, flat_drop hs l k, List.drop_append, hs, show (k + 1) * s - s = k * s by rw [Nat.succ_mul]; omega, show (enc x).drop ((k + 1) * s) = [] from List.drop_eq_nil_of_le (by rw [hs, Nat.succ_mul]; omega), List.nil_append]
theorem flat_one_cell (h1 : ∀ a, ∀ u ∈ enc a, u.oneCell' = true) (l : List α) : ∀ u ∈ flat enc l, u.oneCell' = true := fun u hu => by
  obtain ⟨a, _, h⟩ := List.mem_flatMap.1 hu
  exact h1 a u h
/-- the cell of an element's field -/
theorem Row.at {w : World} {A : Option Addr} {l : List α} (h : Row w A (flat enc l)) (hs : ∀ a, (enc a).length = s) {k : Nat} {a : α} (hk : l[k]? = some a) (h0 : 0 < s) :
    ∃ b o, A = some ⟨b, o, none⟩ ∧ ∀ j u, (enc a)[j]? = some u → w.cell? ⟨b, o + (k * s + j), none⟩ = some u := by
  have hkl : k < l.length := by
    rcases Nat.lt_or_ge k l.length with g | g
    · exact g
    · rw [List.getElem?_eq_none g] at hk; cases hk
  obtain ⟨b, o, e, hc⟩ := h (by rw [flat_len hs]; exact Nat.mul_pos (by omega) h0)
  refine ⟨b, o, e, fun j u hu => hc _ u ?_⟩
  have hj : j < s := by
    rcases Nat.lt_or_ge j s with g | g
    · exact g
    · rw [List.getElem?_eq_none (by rw [hs]; exact g)] at hu; cases hu
  rw [flat_at hs hk hj]; exact hu
end

/-- nothing has turned but one block of the call's own and new ones -/
theorem Ext.grown {a w w' : World} {v : Value} (h : Ext a w) (hg : w.grownBy w' v.ownBlock) (hv : ∀ k, v.ownBlock = some k → a.heap.size ≤ k) : Ext a w' := RowKit.Below.grown h hg h.size hv

theorem run_append_row {P : Program} (w : World) (base : Nat) (t ty e : TypeId) (i : TypeInfo) (z : Value) (size bytes : Nat) (ht : P.underlying t = some (.slice e)) (hi : P.info? e = some i) (hz : i.zero = some z)
    (hsize : i.size = size) (hby : i.bytes = bytes) (hzs : z.cells.size = size) (hsz : 0 < size)
    (v : Value) (n : Nat) (xs : List Value) (hown : w.ownsRow base e size v n xs)
    (A : Option Addr) (m c : Nat) (news : List Value) (hl : news.length = m * size) (hr : Row w A news) (h1 : ∀ u ∈ news, u.oneCell' = true)
    (h63 : n + m ≤ maxLen) (hbytes : (n + m) * bytes ≤ 140737488355328) (hbase : base ≤ w.heap.size) :
    ∃ v' w', (Builtin.append_ #[t, t] ty #[v, .slice A m c]).run P w = .ok v' w' ∧ w'.ownsRow base e size v' (n + m) (xs ++ news) ∧ w.grownBy w' v.ownBlock := by
  cases A with
  | none =>
    have h0 : news = [] := by
      cases news with
      | nil => rfl
      | cons u us => obtain ⟨b, o, e, _⟩ := hr (by simp); cases e
    subst h0
    have hm : m = 0 := by
      have := hl
      simp only [List.length_nil] at this
      rcases Nat.mul_eq_zero.1 this.symm with h | h
      · exact h
      · omega
    subst hm
    refine ⟨v, w, ?_, by simpa using hown, ⟨rfl, rfl, rfl, Nat.le_refl _, fun _ _ _ => rfl⟩⟩
    rcases hown.2 with ⟨rfl, rfl⟩ | ⟨g, cap, cur, rfl, _, _, hnc, _⟩
    · simp [Builtin.append_, run_underlying ht, sizeOf, typeInfo, hi, Builtin.lenOf, Builtin.firstCells]
    · simp [Builtin.append_, run_underlying ht, sizeOf, typeInfo, hi, Builtin.lenOf, Builtin.firstCells, hnc, storeCells]
  | some ad =>
    obtain ⟨v', w', hrun, h2, h3, _, _⟩ := run_append_own_at (P := P) w base t ty e i z size bytes ht hi hz hsize hby hzs hsz v n xs hown ad m c news hl (fun j u hu => by
      obtain ⟨b, o, e, hc⟩ := hr (by cases news <;> simp at hu ⊢)
      injection e with e
      subst e
      rw [add_at]
      exact hc j u hu) h1 h63 hbytes hbase
    exact ⟨v', w', hrun, h2, h3⟩

theorem wp_append_row {P : Program} (w : World) {o : Oper} {a : Act} {K : Act → World → Prop} {Q : Exit → Act → World → Prop} (s x : Operand) (t : TypeId)
    (ho : o.op = .call { callee := .builtin .append, args := #[s, x], argTypes := #[t, t] })
    (base : Nat) (e : TypeId) (i : TypeInfo) (z : Value) (size bytes : Nat) (ht : P.underlying t = some (.slice e)) (hi : P.info? e = some i) (hz : i.zero = some z)
    (hsize : i.size = size) (hby : i.bytes = bytes) (hzs : z.cells.size = size) (hsz : 0 < size)
    (v : Value) (n : Nat) (xs : List Value) (hs : a.eval s = v) (hown : w.ownsRow base e size v n xs)
    (A : Option Addr) (m c : Nat) (news : List Value) (hx : a.eval x = .slice A m c) (hl : news.length = m * size) (hr : Row w A news) (h1 : ∀ u ∈ news, u.oneCell' = true)
    (h63 : n + m ≤ maxLen) (hbytes : (n + m) * bytes ≤ 140737488355328) (hbase : base ≤ w.heap.size)
    (h : ∀ v' w', w'.ownsRow base e size v' (n + m) (xs ++ news) → w.grownBy w' v.ownBlock → K (a.put o.dst v') w') : o.wp P a w K Q := by
  obtain ⟨v', w', hrun, h2, h3⟩ := run_append_row (P := P) w base t o.type e i z size bytes ht hi hz hsize hby hzs hsz v n xs hown A m c news hl hr h1 h63 hbytes hbase
  unfold Oper.wp execOp
  simp only [ho, resolve, invoke, builtin, Sem.run_bind, Sem.run_pure, Result.andThen_ok, List.map_toArray, List.map_cons, List.map_nil, hs, hx, hrun]
  exact h v' w' h2 h3

theorem wpList_append_row {P : Program} (w : World) {ops : Array Oper} {rest : List Oper} {o : Oper} {a : Act} {Q : Exit → Act → World → Prop} (hgd : o.guard = none) (s x : Operand) (t : TypeId)
    (ho : o.op = .call { callee := .builtin .append, args := #[s, x], argTypes := #[t, t] })
    (base : Nat) (e : TypeId) (i : TypeInfo) (z : Value) (size bytes : Nat) (ht : P.underlying t = some (.slice e)) (hi : P.info? e = some i) (hz : i.zero = some z)
    (hsize : i.size = size) (hby : i.bytes = bytes) (hzs : z.cells.size = size) (hsz : 0 < size)
    (v : Value) (n : Nat) (xs : List Value) (hs : a.eval s = v) (hown : w.ownsRow base e size v n xs)
    (A : Option Addr) (m c : Nat) (news : List Value) (hx : a.eval x = .slice A m c) (hl : news.length = m * size) (hr : Row w A news) (h1 : ∀ u ∈ news, u.oneCell' = true)
    (h63 : n + m ≤ maxLen) (hbytes : (n + m) * bytes ≤ 140737488355328) (hbase : base ≤ w.heap.size)
    (h : ∀ v' w', w'.ownsRow base e size v' (n + m) (xs ++ news) → w.grownBy w' v.ownBlock → wpList P ops Q rest (a.put o.dst v') w') : wpList P ops Q (o :: rest) a w :=
  wpList_plain hgd fun _ hK => wp_append_row w s x t ho base e i z size bytes ht hi hz hsize hby hzs hsz v n xs hs hown A m c news hx hl hr h1 h63 hbytes hbase fun v' w' h2 h3 => hK _ _ (h v' w' h2 h3)

/-- the address of what is cut off at the front -/
def cutA (A : Option Addr) (cap k s : Nat) : Option Addr := if cap = k then A else A.map (·.add (k * s))
theorem Row.cut {w : World} {A : Option Addr} {xs : List Value} (h : Row w A xs) {n cap k s : Nat} (hl : xs.length = n * s) (hc : n ≤ cap) (hk : k ≤ n) : Row w (cutA A cap k s) (xs.drop (k * s)) := fun h0 => by
  have h1 : k * s < n * s := by rw [List.length_drop, hl] at h0; omega
  have hkn : k < n := Nat.lt_of_mul_lt_mul_right h1
  obtain ⟨b, o, rfl, hcell⟩ := h (by omega)
  unfold cutA
  rw [if_neg (by omega), Option.map_some, add_at]
  exact Row.drop h (k * s) h0
theorem Row.new (w : World) (cs : Array Value) (t : TypeId) : Row (w.alloc (.cells cs t)) (some ⟨w.heap.size, 0, none⟩) cs.toList := fun _ =>
  ⟨_, _, rfl, fun j u hu => by rw [← add_at]; exact World.news_of_block (heap_alloc_new w _) j u hu⟩
/-- s[k:] -/
theorem run_from {P : Program} {t e : TypeId} {i : TypeInfo} (ht : P.underlying t = some (.slice e)) (hi : P.info? e = some i) (A : Option Addr) (n cap : Nat) (k : Int) (W : World) (h0 : 0 ≤ k) (h1 : k ≤ n) :
    (Instr.slice t (.slice A n cap) (some (.int .i64 k)) none none).run P W = .ok (.slice (cutA A cap k.toNat i.size) (n - k.toNat) (cap - k.toNat)) W := by
  simp [Instr.slice, run_underlying ht, Instr.sliceBounds, run_sliceBound, sizeOf, typeInfo, hi, cutA, h0, h1]
/-- s[:k] -/
theorem run_upto {P : Program} {t e : TypeId} {i : TypeInfo} (ht : P.underlying t = some (.slice e)) (hi : P.info? e = some i) (A : Option Addr) (n cap : Nat) (k : Int) (W : World) (h0 : 0 ≤ k) (h1 : k ≤ cap) :
    (Instr.slice t (.slice A n cap) none (some (.int .i64 k)) none).run P W = .ok (.slice A k.toNat cap) W := by
  have e0 : A.map (·.add 0) = A := by cases A <;> simp [Addr.add]
  simp [Instr.slice, run_underlying ht, Instr.sliceBounds, run_sliceBound, sizeOf, typeInfo, hi, h0, h1, e0]
/-- make of no elements, with room -/
def roomC (z : Value) (n : Nat) : Array Value := madeCells z.cells n
theorem run_room {P : Program} {t e : TypeId} {i : TypeInfo} {z : Value} {s bytes : Nat} (ht : P.underlying t = some (.slice e)) (hi : P.info? e = some i) (hz : i.zero = some z) (hs : i.size = s) (hby : i.bytes = bytes) (c : Int) (W : World) (h0 : 0 ≤ c) (h1 : (bytes : Int) * c ≤ 281474976710656) (h2 : c ≤ 9223372036854775807) :
    (Instr.makeSlice t (.int .i64 0) (.int .i64 c)).run P W = .ok (.slice (some ⟨W.heap.size, 0, none⟩) 0 c.toNat) (W.alloc (.cells (roomC z (c.toNat * s)) e)) := by
  subst hs
  subst hby
  exact run_make W t e i z ht hi hz .i64 .i64 0 c (Int.le_refl _) h0 h1 h2
theorem roomC_size (z : Value) (n : Nat) : (roomC z n).size = n := size_madeCells _ _

end Go.Proofs.Ytnocdfmmhnnbeaa

namespace Go.Proofs.Ytnocdfmmhnnbeaa
open Go.ChangeShapes Go.WideShapes Go.ChangeAt Go.RowKit Go.Sort
set_option linter.unusedVariables false
set_option linter.unusedSimpArgs false

/-- a row of the call's own, of whatever elements -/
def OwnG (t : TypeId) (s : Nat) (w W : World) (v : Value) (n : Nat) (xs : List Value) : Prop := W.ownsRow w.heap.size t s v n xs
section
variable {t : TypeId} {s : Nat} {w W W' : World} {v : Value} {n : Nat} {xs : List Value}
theorem OwnG.nil (t : TypeId) (s : Nat) (w W : World) : OwnG t s w W (.slice none 0 0) 0 [] := World.ownsRow_nil W _ _ _
theorem OwnG.ext (h : OwnG t s w W v n xs) (hx : Ext W W') : OwnG t s w W' v n xs := by
  unfold OwnG at h ⊢
  rcases h with ⟨h1, h2 | ⟨g, cap, cur, h2, h3, h4, h5⟩⟩
  · exact ⟨h1, .inl h2⟩
  · refine ⟨h1, .inr ⟨g, cap, cur, h2, h3, ?_, h5⟩⟩
    have hg : g < W.heap.size := by
      rcases Nat.lt_or_ge g W.heap.size with k | k
      · exact k
      · rw [Array.getElem?_eq_none k] at h4; cases h4
    rw [RowKit.Below.block hx g hg]; exact h4
theorem OwnG.down {w0 : World} (h : OwnG t s w W v n xs) (hx : Ext w0 w) : OwnG t s w0 W v n xs := by
  unfold OwnG at h ⊢
  rcases h with ⟨h1, h2 | ⟨g, cap, cur, h2, h3, h4⟩⟩
  · exact ⟨h1, .inl h2⟩
  · exact ⟨h1, .inr ⟨g, cap, cur, h2, Nat.le_trans hx.size h3, h4⟩⟩
theorem OwnG.form (h : OwnG t s w W v n xs) : ∃ A c, v = .slice A n c ∧ n ≤ c := by
  rcases h.2 with ⟨rfl, h0⟩ | ⟨g, cap, cur, rfl, _, _, h2, _⟩
  · exact ⟨none, 0, by rw [h0], by omega⟩
  · exact ⟨_, _, rfl, h2⟩
theorem OwnG.lt (h : OwnG t s w W v n xs) : ∀ k, v.ownBlock = some k → w.heap.size ≤ k := fun k hk => (World.ownsRow.lt h k hk).1
theorem OwnG.row {A : Option Addr} {c : Nat} (h : OwnG t s w W (.slice A n c) n xs) : Row W A xs := Row.own h
end

/-- a byte's cell -/
abbrev Vb (x : UInt8) : Value := .int .u8 (x.toNat : Int)
/-- a slice's address, from which bytes lie -/
def Bys (w : World) (A : Option Addr) (l : List UInt8) : Prop := Row w A (l.map Vb)
theorem Bys.ext {w w' : World} {A : Option Addr} {l : List UInt8} (h : Bys w A l) (hx : Ext w w') : Bys w' A l := Row.ext h hx
theorem Bys.nil (w : World) (A : Option Addr) : Bys w A [] := Row.nil w A
theorem Bys.at {w : World} {A : Option Addr} {l : List UInt8} (h : Bys w A l) {k : Nat} (hk : k < l.length) : ∃ b o, A = some ⟨b, o, none⟩ ∧ w.cell? ⟨b, o + k, none⟩ = some (Vb (l.getD k 0)) := by
  obtain ⟨b, o, e, hc⟩ := h (by rw [List.length_map]; omega)
  refine ⟨b, o, e, hc k _ ?_⟩
  simp [List.getD, hk]
theorem Bys.all {w : World} {b o : Nat} {l : List UInt8} (h : Bys w (some ⟨b, o, none⟩) l) (k : Nat) (hk : k < l.length) : w.cell? ⟨b, o + k, none⟩ = some (Vb (l.getD k 0)) := by
  obtain ⟨b', o', e, hc⟩ := h.at hk
  injection e with e
  injection e with e1 e2 e3
  subst e1
  subst e2
  exact hc
theorem Bys.place {w : World} {A : Option Addr} {l : List UInt8} (h : Bys w A l) (hk : 0 < l.length) : ∃ b o, A = some ⟨b, o, none⟩ := by
  obtain ⟨b, o, e, _⟩ := h.at hk
  exact ⟨b, o, e⟩
theorem Bys.take {w : World} {A : Option Addr} {l : List UInt8} (h : Bys w A l) (k : Nat) : Bys w A (l.take k) := by
  unfold Bys; rw [List.map_take]; exact Row.take h _
theorem Bys.cut {w : World} {A : Option Addr} {l : List UInt8} (h : Bys w A l) {n cap k : Nat} (hn : l.length = n) (hc : n ≤ cap) (hk : k ≤ n) : Bys w (cutA A cap k 1) (l.drop k) := by
  have := Row.cut (s := 1) h (n := n) (cap := cap) (k := k) (by rw [List.length_map, hn, Nat.mul_one]) hc hk
  unfold Bys; rw [List.map_drop]; rw [Nat.mul_one] at this; exact this
theorem map_Vb_one (l : List UInt8) : ∀ u ∈ l.map Vb, u.oneCell' = true := by intro u hu; obtain ⟨b, _, rfl⟩ := List.mem_map.1 hu; rfl

theorem infoB : (Try.prog.info? 5).map (fun i => (i.zero, i.size, i.bytes)) = some (some (.int .u8 0), 1, 1) := by kernel_rfl
/-- bytes of the call's own -/
def OwnB (w W : World) (v : Value) (l : List UInt8) : Prop := OwnG 5 1 w W v l.length (l.map Vb)
theorem OwnB.nil (w W : World) : OwnB w W (.slice none 0 0) [] := OwnG.nil _ _ _ _
theorem OwnB.ext {w W W' : World} {v : Value} {l : List UInt8} (h : OwnB w W v l) (hx : Ext W W') : OwnB w W' v l := OwnG.ext h hx
theorem OwnB.down {w0 w W : World} {v : Value} {l : List UInt8} (h : OwnB w W v l) (hx : Ext w0 w) : OwnB w0 W v l := OwnG.down h hx
theorem OwnB.open {w W : World} {v : Value} {l : List UInt8} (h : OwnB w W v l) : ∃ A c, v = .slice A l.length c ∧ l.length ≤ c ∧ Bys W A l := by
  obtain ⟨A, c, rfl, hc⟩ := OwnG.form h
  exact ⟨A, c, rfl, hc, OwnG.row h⟩
theorem OwnB.lt {w W : World} {v : Value} {l : List UInt8} (h : OwnB w W v l) : ∀ k, v.ownBlock = some k → w.heap.size ≤ k := OwnG.lt h
def roomB (c : Nat) : Array Value := roomC (.int .u8 0) (c * 1)
theorem OwnB.room {w0 W : World} (hx : Ext w0 W) (c : Nat) (h1 : c ≤ 3000) : OwnB w0 (W.alloc (.cells (roomB c) 5)) (.slice (some ⟨W.heap.size, 0, none⟩) 0 c) [] :=
  World.ownsRow_made W _ _ hx.size (by unfold maxLen; omega) (roomC_size _ _)
/-- []byte{..}: a row of the call's own -/
theorem OwnB.new {w0 W : World} (hx : Ext w0 W) (l : List UInt8) (hl : l.length ≤ 3000) (cs : Array Value) (hc : cs = (l.map Vb).toArray) : OwnB w0 (W.alloc (.cells cs 5)) (.slice (some ⟨W.heap.size, 0, none⟩) l.length l.length) l := by
  subst hc
  refine ⟨by simp, .inr ⟨W.heap.size, l.length, _, rfl, hx.size, heap_alloc_new W _, Nat.le_refl _, by unfold maxLen; omega, by simp, by simpa using List.take_of_length_le (by simp)⟩⟩
theorem Bys.new (w : World) (l : List UInt8) (cs : Array Value) (hc : cs = (l.map Vb).toArray) : Bys (w.alloc (.cells cs 5)) (some ⟨w.heap.size, 0, none⟩) l := by
  subst hc
  have := Row.new w (l.map Vb).toArray 5
  exact this

theorem Bys.new2 (w : World) (o : Obj) (l : List UInt8) (cs : Array Value) (hc : cs = (l.map Vb).toArray) : Bys ((w.alloc o).alloc (.cells cs 5)) (some ⟨w.heap.size + 1, 0, none⟩) l := by
  have := Bys.new (w.alloc o) l cs hc
  rw [show (w.alloc o).heap.size = w.heap.size + 1 by simp] at this
  exact this

/-- bytes of the call's own are told, and nothing that was there has turned -/
def RetB (w : World) (l : List UInt8) (e : Ending) (w' : World) : Prop := ∃ v, e = .returned v ∧ OwnB w w' v l ∧ Ext w w'

end Go.Proofs.Ytnocdfmmhnnbeaa

namespace Go.Proofs.Ytnocdfmmhnnbeaa
open Go.ChangeShapes Go.WideShapes Go.ChangeAt Go.RowKit Go.Sort
set_option linter.unusedVariables false
set_option linter.unusedSimpArgs false

def cmpI (a b : Int) : Int := if a < b then -1 else if b < a then 1 else 0

/-- cmp.isNaN at uint32 -/
theorem isNaN_any (a : Int) (w : World) : Calls Try.prog 52 #[Vu a] w fun e w' => e = .returned (.bool false) ∧ w = w' := by
  go_enter Try.func52, Try.ntmps52
  go_wp2
  go_ret
  exact ⟨by simp, rfl⟩

theorem compare_any (a b : Int) (w : World) : Calls Try.prog 41 #[Vu a, Vu b] w fun e w' => e = .returned (Vi (cmpI a b)) ∧ w = w' := by
  go_enter Try.func41, Try.ntmps41
  go_wp2_with (go_at_call 52; refine (isNaN_any _ _).mono ?_; rintro e w' ⟨rfl, rfl⟩)
  all_goals go_ret
  all_goals refine ⟨?_, rfl⟩
  all_goals (refine ret_i64 ?_; unfold cmpI; (repeat' split) <;> omega)

end Go.Proofs.Ytnocdfmmhnnbeaa

namespace Go.Proofs.Ytnocdfmmhnnbeaa
open Go.ChangeShapes Go.WideShapes Go.ChangeAt Go.RowKit Go.Sort
set_option linter.unusedVariables false
set_option linter.unusedSimpArgs false

/- an error that is a Code, 0 for none -/

end Go.Proofs.Ytnocdfmmhnnbeaa

namespace Go.Proofs.Ytnocdfmmhnnbeaa
open Go.ChangeShapes Go.WideShapes Go.ChangeAt Go.RowKit Go.Sort
set_option linter.unusedVariables false
set_option linter.unusedSimpArgs false

theorem none_any (a b : Int) (w : World) : Calls Try.prog 22 #[idv a b] w fun e w' => e = .returned (.bool (a == 0)) ∧ Ext w w' := by
  go_enter Try.func22, Try.ntmps22
  go_wp2
  go_ret
  exact ⟨rfl, (Ext.refl _).alloc _⟩

/-- the same Id -/
def idEq (a b c d : Int) : Bool := decide (a = c ∧ b = d)

theorem id_eql (a b c d : Int) (W : World) : (binOp .eql 25 (idv a b) (idv c d)).run Try.prog W = .ok (.bool (idEq a b c d)) W := by
  by_cases h1 : a = c
  · by_cases h2 : b = d
    · simp [go_sem, idEq, h1, h2]
    · have h2' : (b == d) = false := by simpa using h2
      simp [go_sem, idEq, h1, h2, h2']
  · have h1' : (a == c) = false := by simpa using h1
    simp [go_sem, idEq, h1, h1']

def cmpId (a b c d : Int) : Int := if a = c then cmpI b d else cmpI a c

theorem cmp_any (a b c d : Int) (w : World) : Calls Try.prog 38 #[idv a b, idv c d] w fun e w' => e = .returned (Vi (cmpId a b c d)) ∧ Ext w w' := by
  by_cases h : a = c
  · subst h
    go_enter Try.func38, Try.ntmps38
    go_wp2_with (go_at_call 41; refine (compare_any _ _ _).mono ?_; rintro e w' ⟨rfl, rfl⟩)
    go_ret
    exact ⟨by simp [cmpId], ((Ext.refl _).alloc _).alloc _⟩
  · have h' : (a != c) = true := by simpa using h
    go_enter Try.func38, Try.ntmps38
    go_wp2_with (go_at_call 41; refine (compare_any _ _ _).mono ?_; rintro e w' ⟨rfl, rfl⟩)
    go_ret
    exact ⟨by simp [cmpId, h], ((Ext.refl _).alloc _).alloc _⟩

def befId (a b c d : Int) : Bool := decide (a < c ∨ a = c ∧ b < d)

theorem before_any (a b c d : Int) (w : World) : Calls Try.prog 31 #[idv a b, idv c d] w fun e w' => e = .returned (.bool (befId a b c d)) ∧ Ext w w' := by
  go_enter Try.func31, Try.ntmps31
  go_wp2
  all_goals go_ret
  all_goals refine ⟨?_, ((Ext.refl _).alloc _).alloc _⟩
  all_goals simp [befId, *]
  all_goals omega

def cmpRef (a b c d : Int) : Int := if befId a b c d then -1 else if befId c d a b then 1 else 0

/-- what After tells: the Id and the number of the error -/
def aftId (a b n l : Int) : Int × Int × Int := if a = 0 ∨ n < 0 then (0, 0, 1) else if b + n > l then (0, 0, 4) else (a, b + n, 0)

theorem cellsId : Try.prog.cellsOf 25 = 2 := by kernel_rfl

set_option maxRecDepth 100000 in
/-- an Id, opened -/
theorem id_opens {H : Type} {enc : TypeId × Value → H} {W : World} {base b0 : Nat} {sp : Nat → Bool} {hd : Bool} {r : Reach} {v : Value} {d : DataW H} {p : List MemPlace} (hv : Value.okWide Try.prog W r b0 25 v) (h : DataW.Trod enc Try.prog W base sp hd 25 v d p) :
    ∃ a b : Int, v = idv a b ∧ d = .agg [.lit (.int .u32 a), .lit (.int .u32 b)] ∧ p = [] ∧ (Lit.int .u32 a).wf = true ∧ (Lit.int .u32 b).wf = true := by
  obtain ⟨c0, c1, y0, y1, m, rfl, rfl, rfl, hy0, hy1⟩ := Go.Joins.open_agg2 Try.underlying25 (by kernel_rfl) cellsId hv h
  obtain ⟨a, e0, rfl, wa⟩ := DataW.trod_int Try.underlying23 hy0
  obtain ⟨b, e1, rfl, wb⟩ := DataW.trod_int Try.underlying23 hy1
  simp at e0 e1
  subst e0 e1
  exact ⟨a, b, rfl, rfl, rfl, wa, wb⟩

end Go.Proofs.Ytnocdfmmhnnbeaa

namespace Go.Proofs.Ytnocdfmmhnnbeaa
open Go.ChangeShapes Go.WideShapes Go.ChangeAt Go.RowKit Go.Sort
set_option linter.unusedVariables false
set_option linter.unusedSimpArgs false

/-- append to a row of the call's own, with what becomes of its block -/
theorem run_append_rowB {P : Program} (w : World) (base : Nat) (t ty e : TypeId) (i : TypeInfo) (z : Value) (size bytes : Nat) (ht : P.underlying t = some (.slice e)) (hi : P.info? e = some i) (hz : i.zero = some z)
    (hsize : i.size = size) (hby : i.bytes = bytes) (hzs : z.cells.size = size) (hsz : 0 < size)
    (v : Value) (n : Nat) (xs : List Value) (hown : w.ownsRow base e size v n xs)
    (A : Option Addr) (m c : Nat) (news : List Value) (hl : news.length = m * size) (hr : Row w A news) (h1 : ∀ u ∈ news, u.oneCell' = true)
    (h63 : n + m ≤ maxLen) (hbytes : (n + m) * bytes ≤ 140737488355328) (hbase : base ≤ w.heap.size) :
    ∃ v' w', (Builtin.append_ #[t, t] ty #[v, .slice A m c]).run P w = .ok v' w' ∧ w'.ownsRow base e size v' (n + m) (xs ++ news) ∧ w.grownBy w' v.ownBlock ∧ (v'.ownBlock = v.ownBlock ∨ v'.ownBlock = some w.heap.size) := by
  cases A with
  | none =>
    have h0 : news = [] := by
      cases news with
      | nil => rfl
      | cons u us => obtain ⟨b, o, e, _⟩ := hr (by simp); cases e
    subst h0
    have hm : m = 0 := by
      have := hl
      simp only [List.length_nil] at this
      rcases Nat.mul_eq_zero.1 this.symm with h | h
      · exact h
      · omega
    subst hm
    refine ⟨v, w, ?_, by simpa using hown, ⟨rfl, rfl, rfl, Nat.le_refl _, fun _ _ _ => rfl⟩, .inl rfl⟩
    rcases hown.2 with ⟨rfl, rfl⟩ | ⟨g, cap, cur, rfl, _, _, hnc, _⟩
    · simp [Builtin.append_, run_underlying ht, sizeOf, typeInfo, hi, Builtin.lenOf, Builtin.firstCells]
    · simp [Builtin.append_, run_underlying ht, sizeOf, typeInfo, hi, Builtin.lenOf, Builtin.firstCells, hnc, storeCells]
  | some ad =>
    obtain ⟨v', w', hrun, h2, h3, _, h5⟩ := run_append_own_at (P := P) w base t ty e i z size bytes ht hi hz hsize hby hzs hsz v n xs hown ad m c news hl (fun j u hu => by
      obtain ⟨b, o, e, hc⟩ := hr (by cases news <;> simp at hu ⊢)
      injection e with e
      subst e
      rw [add_at]
      exact hc j u hu) h1 h63 hbytes hbase
    exact ⟨v', w', hrun, h2, h3, h5⟩

/-- the cells of an item -/
def encI (x : It) : List Value := [Vu x.c, Vu x.k, Vu x.lc, Vu x.lk, Vu x.rc, Vu x.rk, .int .i32 x.ch]
abbrev itv (x : It) : Value := .agg #[.int .u32 x.c, .int .u32 x.k, .int .u32 x.lc, .int .u32 x.lk, .int .u32 x.rc, .int .u32 x.rk, .int .i32 x.ch]
theorem encI_len (p : It) : (encI p).length = 7 := rfl
theorem encI_one (p : It) : ∀ u ∈ encI p, u.oneCell' = true := by intro u hu; simp [encI] at hu; rcases hu with rfl | rfl | rfl | rfl | rfl | rfl | rfl <;> rfl
theorem infoI : (Try.prog.info? 27).map (fun i => (i.zero, i.size, i.bytes)) = some (some (.agg #[.int .u32 0, .int .u32 0, .int .u32 0, .int .u32 0, .int .u32 0, .int .u32 0, .int .i32 0]), 7, 28) := by kernel_rfl
/-- from that address on lie these -/
def ItS (w : World) (A : Option Addr) (l : List It) : Prop := Row w A (flat encI l)
theorem ItS.ext {w w' : World} {A : Option Addr} {l : List It} (h : ItS w A l) (hx : Ext w w') : ItS w' A l := Row.ext h hx
theorem ItS.nil (w : World) (A : Option Addr) : ItS w A [] := Row.nil w A
/-- the cells of one, from an address on -/
structure ItC (w : World) (b o : Nat) (x : It) : Prop where
  c0 : w.cell? ⟨b, o, none⟩ = some (Vu x.c)
  c1 : w.cell? ⟨b, o + 1, none⟩ = some (Vu x.k)
  c2 : w.cell? ⟨b, o + 2, none⟩ = some (Vu x.lc)
  c3 : w.cell? ⟨b, o + 3, none⟩ = some (Vu x.lk)
  c4 : w.cell? ⟨b, o + 4, none⟩ = some (Vu x.rc)
  c5 : w.cell? ⟨b, o + 5, none⟩ = some (Vu x.rk)
  c6 : w.cell? ⟨b, o + 6, none⟩ = some (.int .i32 x.ch)
theorem ItC.ext {w w' : World} {b o : Nat} {x : It} (h : ItC w b o x) (hx : Ext w w') : ItC w' b o x := ⟨hx.keep h.c0, hx.keep h.c1, hx.keep h.c2, hx.keep h.c3, hx.keep h.c4, hx.keep h.c5, hx.keep h.c6⟩
theorem ItS.at {w : World} {A : Option Addr} {l : List It} (h : ItS w A l) {k : Nat} (hk : k < l.length) : ∃ b o x, A = some ⟨b, o, none⟩ ∧ l[k]? = some x ∧ ItC w b (o + k * 7) x := by
  obtain ⟨x, hp⟩ : ∃ p, l[k]? = some p := ⟨l[k], List.getElem?_eq_getElem hk⟩
  obtain ⟨b, o, e, hc⟩ := Row.at h encI_len hp (by omega)
  exact ⟨b, o, x, e, hp, hc 0 _ rfl, hc 1 _ rfl, hc 2 _ rfl, hc 3 _ rfl, hc 4 _ rfl, hc 5 _ rfl, hc 6 _ rfl⟩
theorem ItS.take {w : World} {A : Option Addr} {l : List It} (h : ItS w A l) (k : Nat) : ItS w A (l.take k) := by
  unfold ItS; rw [flat_take encI_len]; exact Row.take h _
theorem ItS.cut {w : World} {A : Option Addr} {l : List It} (h : ItS w A l) {n cap k : Nat} (hn : l.length = n) (hc : n ≤ cap) (hk : k ≤ n) : ItS w (cutA A cap k 7) (l.drop k) := by
  unfold ItS; rw [flat_drop encI_len]; exact Row.cut h (n := n) (by rw [flat_len encI_len, hn]) hc hk
theorem ItS.new (w : World) (x : It) : ItS (w.alloc (.cells #[.int .u32 x.c, .int .u32 x.k, .int .u32 x.lc, .int .u32 x.lk, .int .u32 x.rc, .int .u32 x.rk, .int .i32 x.ch] 27)) (some ⟨w.heap.size, 0, none⟩) [x] := Row.new w #[.int .u32 x.c, .int .u32 x.k, .int .u32 x.lc, .int .u32 x.lk, .int .u32 x.rc, .int .u32 x.rk, .int .i32 x.ch] 27
theorem ItS.new2 (w : World) (o : Obj) (x : It) : ItS ((w.alloc o).alloc (.cells #[.int .u32 x.c, .int .u32 x.k, .int .u32 x.lc, .int .u32 x.lk, .int .u32 x.rc, .int .u32 x.rk, .int .i32 x.ch] 27)) (some ⟨w.heap.size + 1, 0, none⟩) [x] := by
  have h := ItS.new (w.alloc o) x
  rwa [show (w.alloc o).heap.size = w.heap.size + 1 by simp] at h
theorem fromI (A : Option Addr) (n cap k : Nat) (h1 : k ≤ n) (z : Int) (hz : z = k) (W : World) : (Instr.slice 22 (.slice A n cap) (some (.int .i64 z)) none none).run Try.prog W = .ok (.slice (cutA A cap k 7) (n - k) (cap - k)) W := by
  subst hz
  obtain ⟨i, hi, hz0, hz1, hz2⟩ := info_parts infoI
  have := run_from Try.underlying22 hi A n cap k W (by omega) (by omega)
  rw [hz1] at this
  exact this
theorem uptoI (A : Option Addr) (n cap k : Nat) (h1 : k ≤ cap) (z : Int) (hz : z = k) (W : World) : (Instr.slice 22 (.slice A n cap) none (some (.int .i64 z)) none).run Try.prog W = .ok (.slice A k cap) W := by
  subst hz
  obtain ⟨i, hi, hz0, hz1, hz2⟩ := info_parts infoI
  exact run_upto Try.underlying22 hi A n cap k W (by omega) (by omega)
/-- a row of the call's own -/
def OwnI (w W : World) (v : Value) (l : List It) : Prop := OwnG 27 7 w W v l.length (flat encI l)
theorem OwnI.nil (w W : World) : OwnI w W (.slice none 0 0) [] := OwnG.nil _ _ _ _
theorem OwnI.ext {w W W' : World} {v : Value} {l : List It} (h : OwnI w W v l) (hx : Ext W W') : OwnI w W' v l := OwnG.ext h hx
theorem OwnI.down {w0 w W : World} {v : Value} {l : List It} (h : OwnI w W v l) (hx : Ext w0 w) : OwnI w0 W v l := OwnG.down h hx
theorem OwnI.lt {w W : World} {v : Value} {l : List It} (h : OwnI w W v l) : ∀ k, v.ownBlock = some k → w.heap.size ≤ k ∧ k < W.heap.size := World.ownsRow.lt h
theorem OwnI.open {w W : World} {v : Value} {l : List It} (h : OwnI w W v l) : ∃ A c, v = .slice A l.length c ∧ l.length ≤ c ∧ ItS W A l := by
  obtain ⟨A, c, rfl, hc⟩ := OwnG.form h
  exact ⟨A, c, rfl, hc, OwnG.row h⟩
theorem OwnI.kept {w W W' : World} {v : Value} {l : List It} {row : Option Nat} (h : OwnI w W v l) (hg : W.grownBy W' row) (hn : v.ownBlock = none ∨ v.ownBlock ≠ row) : OwnI w W' v l := World.ownsRow.kept h hg hn
/-- these are told, in memory of the call's own -/
def RetI (w : World) (l : List It) (e : Ending) (w' : World) : Prop := ∃ v, e = .returned v ∧ OwnI w w' v l ∧ Ext w w'
theorem RetI.down {w0 w w' : World} {l : List It} {e : Ending} (h : RetI w l e w') (hx : Ext w0 w) : RetI w0 l e w' := by
  obtain ⟨v, h1, h2, h3⟩ := h
  exact ⟨v, h1, h2.down hx, hx.trans h3⟩

theorem wpList_append_I {w0 w : World} {ops : Array Oper} {rest : List Oper} {o : Oper} {a : Act} {Q : Exit → Act → World → Prop} (hgd : o.guard = none) (s x : Operand)
    (ho : o.op = .call { callee := .builtin .append, args := #[s, x], argTypes := #[22, 22] })
    (v : Value) (l : List It) (hs : a.eval s = v) (hown : OwnI w0 w v l) (hx : Ext w0 w)
    (A : Option Addr) (m c : Nat) (r : List It) (he : a.eval x = .slice A m c) (hm : r.length = m) (hr : ItS w A r) (hb : l.length + r.length ≤ 100000)
    (h : ∀ v' w', OwnI w0 w' v' (l ++ r) → Ext w0 w' → w.grownBy w' v.ownBlock → (v'.ownBlock = v.ownBlock ∨ v'.ownBlock = some w.heap.size) → wpList Try.prog ops Q rest (a.put o.dst v') w') : wpList Try.prog ops Q (o :: rest) a w := by
  refine wpList_plain hgd fun K hK => ?_
  obtain ⟨i, hi, hz0, hz1, hz2⟩ := info_parts infoI
  subst hm
  obtain ⟨v', w', hrun, h2, h3, h4⟩ := run_append_rowB (P := Try.prog) w w0.heap.size 22 o.type 27 i _ 7 28 Try.underlying22 hi hz0 hz1 hz2 rfl (by omega) v l.length _ hown A r.length c _ (flat_len encI_len r) hr (flat_one_cell encI_one r)
    (by unfold maxLen; omega) (by omega) hx.size
  unfold Oper.wp execOp
  simp only [ho, resolve, invoke, builtin, Sem.run_bind, Sem.run_pure, Result.andThen_ok, List.map_toArray, List.map_cons, List.map_nil, hs, he, hrun]
  refine hK _ _ (h v' w' ?_ (hx.grown h3 (OwnG.lt hown)) h3 h4)
  unfold OwnI OwnG
  rw [flat_append, List.length_append]
  exact h2

/-- the cells of a run -/
def encR (x : Rn) : List Value := [Vu x.c, Vu x.k, Vu x.lc, Vu x.lk, Vu x.rc, Vu x.rk, .string ⟨x.t.toArray⟩]
abbrev rnv (x : Rn) : Value := .agg #[.int .u32 x.c, .int .u32 x.k, .int .u32 x.lc, .int .u32 x.lk, .int .u32 x.rc, .int .u32 x.rk, .string ⟨x.t.toArray⟩]
theorem encR_len (p : Rn) : (encR p).length = 7 := rfl
theorem encR_one (p : Rn) : ∀ u ∈ encR p, u.oneCell' = true := by intro u hu; simp [encR] at hu; rcases hu with rfl | rfl | rfl | rfl | rfl | rfl | rfl <;> rfl
/-- from that address on lie these -/
def RnS (w : World) (A : Option Addr) (l : List Rn) : Prop := Row w A (flat encR l)
theorem RnS.ext {w w' : World} {A : Option Addr} {l : List Rn} (h : RnS w A l) (hx : Ext w w') : RnS w' A l := Row.ext h hx
theorem RnS.nil (w : World) (A : Option Addr) : RnS w A [] := Row.nil w A
/-- the cells of one, from an address on -/
structure RnC (w : World) (b o : Nat) (x : Rn) : Prop where
  c0 : w.cell? ⟨b, o, none⟩ = some (Vu x.c)
  c1 : w.cell? ⟨b, o + 1, none⟩ = some (Vu x.k)
  c2 : w.cell? ⟨b, o + 2, none⟩ = some (Vu x.lc)
  c3 : w.cell? ⟨b, o + 3, none⟩ = some (Vu x.lk)
  c4 : w.cell? ⟨b, o + 4, none⟩ = some (Vu x.rc)
  c5 : w.cell? ⟨b, o + 5, none⟩ = some (Vu x.rk)
  c6 : w.cell? ⟨b, o + 6, none⟩ = some (.string ⟨x.t.toArray⟩)
theorem RnC.ext {w w' : World} {b o : Nat} {x : Rn} (h : RnC w b o x) (hx : Ext w w') : RnC w' b o x := ⟨hx.keep h.c0, hx.keep h.c1, hx.keep h.c2, hx.keep h.c3, hx.keep h.c4, hx.keep h.c5, hx.keep h.c6⟩
theorem RnS.at {w : World} {A : Option Addr} {l : List Rn} (h : RnS w A l) {k : Nat} (hk : k < l.length) : ∃ b o x, A = some ⟨b, o, none⟩ ∧ l[k]? = some x ∧ RnC w b (o + k * 7) x := by
  obtain ⟨x, hp⟩ : ∃ p, l[k]? = some p := ⟨l[k], List.getElem?_eq_getElem hk⟩
  obtain ⟨b, o, e, hc⟩ := Row.at h encR_len hp (by omega)
  exact ⟨b, o, x, e, hp, hc 0 _ rfl, hc 1 _ rfl, hc 2 _ rfl, hc 3 _ rfl, hc 4 _ rfl, hc 5 _ rfl, hc 6 _ rfl⟩
theorem RnS.take {w : World} {A : Option Addr} {l : List Rn} (h : RnS w A l) (k : Nat) : RnS w A (l.take k) := by
  unfold RnS; rw [flat_take encR_len]; exact Row.take h _
theorem RnS.cut {w : World} {A : Option Addr} {l : List Rn} (h : RnS w A l) {n cap k : Nat} (hn : l.length = n) (hc : n ≤ cap) (hk : k ≤ n) : RnS w (cutA A cap k 7) (l.drop k) := by
  unfold RnS; rw [flat_drop encR_len]; exact Row.cut h (n := n) (by rw [flat_len encR_len, hn]) hc hk
/-- a block that holds one item -/
def BoxI (W : World) (g : Nat) (x : It) : Prop := W.heap[g]? = some (.cells #[Vu x.c, Vu x.k, Vu x.lc, Vu x.lk, Vu x.rc, Vu x.rk, .int .i32 x.ch] 27 (0, 0))
theorem BoxI.grown {W W' : World} {g : Nat} {x : It} {row : Option Nat} (h : BoxI W g x) (hg : W.grownBy W' row) (hn : some g ≠ row) : BoxI W' g x := by
  unfold BoxI at h ⊢
  rw [hg.block g (Array.getElem?_eq_some_iff.1 h).1 hn]; exact h
theorem BoxI.ext {W W' : World} {g : Nat} {x : It} (h : BoxI W g x) (hx : Ext W W') : BoxI W' g x := by
  unfold BoxI at h ⊢
  rw [RowKit.Below.block hx g (Array.getElem?_eq_some_iff.1 h).1]; exact h
theorem BoxI.cells {W : World} {g : Nat} {x : It} (h : BoxI W g x) : ItC W g 0 x :=
  ⟨by rw [cell_of_row W g 0 _ _ _ h]; rfl, by rw [cell_of_row W g (0 + 1) _ _ _ h]; rfl, by rw [cell_of_row W g (0 + 2) _ _ _ h]; rfl, by rw [cell_of_row W g (0 + 3) _ _ _ h]; rfl, by rw [cell_of_row W g (0 + 4) _ _ _ h]; rfl, by rw [cell_of_row W g (0 + 5) _ _ _ h]; rfl, by rw [cell_of_row W g (0 + 6) _ _ _ h]; rfl⟩
theorem BoxI.lt {W : World} {g : Nat} {x : It} (h : BoxI W g x) : g < W.heap.size := (Array.getElem?_eq_some_iff.1 h).1

end Go.Proofs.Ytnocdfmmhnnbeaa

namespace Go.Proofs.Ytnocdfmmhnnbeaa
open Go.ChangeShapes Go.WideShapes Go.ChangeAt Go.RowKit Go.Sort
set_option linter.unusedVariables false
set_option linter.unusedSimpArgs false
attribute [local go_sem] World.cell?_alloc_some

/-- two Ids, as the program holds them beside each other -/
theorem idT_eql (a b c d : Int) (W : World) : (binOp .eql 25 (.agg #[.int .u32 a, .int .u32 b]) (.agg #[.int .u32 c, .int .u32 d])).run Try.prog W = .ok (.bool (decide (a = c ∧ b = d))) W := by
  by_cases h1 : a = c
  · by_cases h2 : b = d
    · subst h1; subst h2; simp [go_sem]
    · have : (b == d) = false := by simpa using h2
      subst h1
      simp [go_sem, this, h2]
  · have : (a == c) = false := by simpa using h1
    simp [go_sem, this, h1]

/-- what find answers -/
def fndV (l : List It) (a : I2) : Int := match fnd l a with
  | none => -1
  | some i => (i : Int)
theorem fnd_here {l : List It} {j : Nat} {x : It} {a : I2} (hp : l[j]? = some x) (h : iid x = a) : fnd (l.drop j) a = some 0 := by
  rw [drop_get hp, fnd, if_pos h]
theorem fnd_drop {l : List It} {j : Nat} {x : It} {a : I2} (hp : l[j]? = some x) (h : iid x ≠ a) : fnd (l.drop j) a = (fnd (l.drop (j + 1)) a).map (· + 1) := by
  rw [drop_get hp, fnd, if_neg h]
theorem fndV_neg {l : List It} {a : I2} : fndV l a < 0 ↔ hasI l a = false := by
  rw [← fnd_none]
  unfold fndV
  cases fnd l a with
  | none => simp
  | some i => simp

set_option maxRecDepth 100000 in
set_option maxHeartbeats 4000000 in
theorem find_ref (A : Option Addr) (n cap : Nat) (l : List It) (c k : Int) (w : World) (hv : ItS w A l) (hn : l.length = n) (hb : n ≤ 1000000000000000) :
    Calls Try.prog 16 #[.slice A n cap, idv c k] w fun e w' => e = .returned (Vi (fndV l (c, k))) ∧ Ext w w' := by
  obtain ⟨R, hR⟩ : ∃ R : Int, fndV l (c, k) = R := ⟨_, rfl⟩
  rw [hR]
  unfold fndV at hR
  have hR0 := Lib.hid (show (match fnd (l.drop 0) (c, k) with | none => (-1 : Int) | some i => ((i + 0 : Nat) : Int)) = R from hR)
  clear hR
  replace hn := Lib.hid hn
  replace hv := Lib.hid hv
  have heq := idT_eql
  go_enter Try.func16, Try.ntmps16
  go_wp2
  have x0 : Ext w (w.alloc (.cells #[.int .u32 c, .int .u32 k] 25)) := (Ext.refl _).alloc _
  have a0 : (w.alloc (.cells #[.int .u32 c, .int .u32 k] 25)).cell? ⟨w.heap.size, 0, none⟩ = some (Vu c) := by simp [go_sem]
  have a1 : (w.alloc (.cells #[.int .u32 c, .int .u32 k] 25)).cell? ⟨w.heap.size, 1, none⟩ = some (Vu k) := by simp [go_sem]
  generalize w.alloc (.cells #[.int .u32 c, .int .u32 k] 25) = w0 at *
  generalize w.heap.size = pa at *
  go_loopw [5] (fun i W => ∃ (j : Nat), j ≤ n ∧ i = Vi j ∧ Hid ((match fnd (l.drop j) (c, k) with | none => (-1 : Int) | some i => ((i + j : Nat) : Int)) = R) ∧ Ext w0 W) (fun i _ => n - (intOf i).toNat)
  case atStart => exact ⟨0, Nat.zero_le _, rfl, hR0, Ext.refl _⟩
  case round =>
    clear hR0
    obtain ⟨j, hj, rfl, hrel, hx⟩ := hrel
    have y0 := hx.keep a0
    have y1 := hx.keep a1
    by_cases hlt : j < n
    · obtain ⟨b, o, x, rfl, hp, d⟩ := (hv.out.ext (x0.trans hx)).at (k := j) (by rw [hn.out]; exact hlt)
      obtain ⟨c0, c1, c2, c3, c4, c5, c6⟩ := d
      have hi1 : (0 : Int) ≤ (j : Int) := by omega
      have hi2 : (j : Int) < (n : Int) := by omega
      by_cases hs : x.c = c ∧ x.k = k
      · have hd : decide (x.c = c ∧ x.k = k) = true := decide_eq_true hs
        have hr := Lib.hid (show (j : Int) = R by rw [← hrel.out, fnd_here hp (by unfold iid; rw [hs.1, hs.2])]; simp)
        have hq : ∀ W : World, (binOp .eql 25 (.agg #[.int .u32 x.c, .int .u32 x.k]) (.agg #[.int .u32 c, .int .u32 k])).run Try.prog W = .ok (.bool true) W := fun W => by rw [idT_eql, hd]
        clear hs hd hp hrel heq
        go_wp2
        go_quiet (fail)
        go_wp2
        go_ret
        exact ⟨ret_i64 hr.out, (x0.trans hx).drewN _⟩
      · have hd : decide (x.c = c ∧ x.k = k) = false := decide_eq_false hs
        have hr := Lib.hid (show (match fnd (l.drop (j + 1)) (c, k) with | none => (-1 : Int) | some i => ((i + (j + 1) : Nat) : Int)) = R by
          rw [← hrel.out, fnd_drop hp (by unfold iid; intro e; injection e with e1 e2; exact hs ⟨e1, e2⟩)]
          cases fnd (l.drop (j + 1)) (c, k) with
          | none => rfl
          | some i => show ((i + (j + 1) : Nat) : Int) = ((i + 1 + j : Nat) : Int); omega)
        have hq : ∀ W : World, (binOp .eql 25 (.agg #[.int .u32 x.c, .int .u32 x.k]) (.agg #[.int .u32 c, .int .u32 k])).run Try.prog W = .ok (.bool false) W := fun W => by rw [idT_eql, hd]
        clear hs hd hp hrel heq
        go_wp2
        go_quiet (fail)
        go_wp2
        go_roundw
        case rel => exact ⟨j + 1, by omega, by go_num, hr, hx.drewN _⟩
        case measure => simp [intOf]; omega
    · have hz := Lib.hid (show (-1 : Int) = R by rw [← hrel.out, List.drop_eq_nil_of_le (by rw [hn.out]; omega)]; rfl)
      go_wp2
      go_ret
      exact ⟨ret_i64 hz.out, x0.trans hx⟩

end Go.Proofs.Ytnocdfmmhnnbeaa

namespace Go.Proofs.Ytnocdfmmhnnbeaa
open Go.ChangeShapes Go.WideShapes Go.ChangeAt Go.RowKit Go.Sort
set_option linter.unusedVariables false
set_option linter.unusedSimpArgs false
attribute [local go_sem] World.cell?_alloc_some

def encO (x : I2) : List Value := [Vu x.1, Vu x.2]
theorem encO_len (p : I2) : (encO p).length = 2 := rfl
theorem encO_one (p : I2) : ∀ u ∈ encO p, u.oneCell' = true := by intro u hu; simp [encO] at hu; rcases hu with rfl | rfl <;> rfl
theorem infoO : (Try.prog.info? 25).map (fun i => (i.zero, i.size, i.bytes)) = some (some (.agg #[.int .u32 0, .int .u32 0]), 2, 8) := by kernel_rfl
/-- from that address on lie these -/
def OdS (w : World) (A : Option Addr) (l : List I2) : Prop := Row w A (flat encO l)
theorem OdS.ext {w w' : World} {A : Option Addr} {l : List I2} (h : OdS w A l) (hx : Ext w w') : OdS w' A l := Row.ext h hx
theorem OdS.nil (w : World) (A : Option Addr) : OdS w A [] := Row.nil w A
theorem OdS.at {w : World} {A : Option Addr} {l : List I2} (h : OdS w A l) {k : Nat} (hk : k < l.length) : ∃ b o x, A = some ⟨b, o, none⟩ ∧ l[k]? = some x ∧ w.cell? ⟨b, o + k * 2, none⟩ = some (Vu x.1) ∧ w.cell? ⟨b, o + k * 2 + 1, none⟩ = some (Vu x.2) := by
  obtain ⟨x, hp⟩ : ∃ p, l[k]? = some p := ⟨l[k], List.getElem?_eq_getElem hk⟩
  obtain ⟨b, o, e, hc⟩ := Row.at h encO_len hp (by omega)
  exact ⟨b, o, x, e, hp, hc 0 _ rfl, hc 1 _ rfl⟩
theorem OdS.newAt {W : World} {s : Nat} (x : I2) (h : W.heap.size = s) : OdS (W.alloc (.cells #[.int .u32 x.1, .int .u32 x.2] 25)) (some ⟨s, 0, none⟩) [x] := h ▸ Row.new W #[.int .u32 x.1, .int .u32 x.2] 25
/-- a row of the call's own -/
def OwnO (w W : World) (v : Value) (l : List I2) : Prop := OwnG 25 2 w W v l.length (flat encO l)
theorem OwnO.nil (w W : World) : OwnO w W (.slice none 0 0) [] := OwnG.nil _ _ _ _
theorem OwnO.ext {w W W' : World} {v : Value} {l : List I2} (h : OwnO w W v l) (hx : Ext W W') : OwnO w W' v l := OwnG.ext h hx
theorem OwnO.down {w0 w W : World} {v : Value} {l : List I2} (h : OwnO w W v l) (hx : Ext w0 w) : OwnO w0 W v l := OwnG.down h hx
theorem OwnO.lt {w W : World} {v : Value} {l : List I2} (h : OwnO w W v l) : ∀ k, v.ownBlock = some k → w.heap.size ≤ k ∧ k < W.heap.size := World.ownsRow.lt h
theorem OwnO.open {w W : World} {v : Value} {l : List I2} (h : OwnO w W v l) : ∃ A c, v = .slice A l.length c ∧ l.length ≤ c ∧ OdS W A l := by
  obtain ⟨A, c, rfl, hc⟩ := OwnG.form h
  exact ⟨A, c, rfl, hc, OwnG.row h⟩
theorem OwnO.kept {w W W' : World} {v : Value} {l : List I2} {row : Option Nat} (h : OwnO w W v l) (hg : W.grownBy W' row) (hn : v.ownBlock = none ∨ v.ownBlock ≠ row) : OwnO w W' v l := World.ownsRow.kept h hg hn
/-- these are told, in memory of the call's own -/
def RetO (w : World) (l : List I2) (e : Ending) (w' : World) : Prop := ∃ v, e = .returned v ∧ OwnO w w' v l ∧ Ext w w'
theorem wpList_append_O {w0 w : World} {ops : Array Oper} {rest : List Oper} {o : Oper} {a : Act} {Q : Exit → Act → World → Prop} (hgd : o.guard = none) (s x : Operand)
    (ho : o.op = .call { callee := .builtin .append, args := #[s, x], argTypes := #[32, 32] })
    (v : Value) (l : List I2) (hs : a.eval s = v) (hown : OwnO w0 w v l) (hx : Ext w0 w)
    (A : Option Addr) (m c : Nat) (r : List I2) (he : a.eval x = .slice A m c) (hm : r.length = m) (hr : OdS w A r) (hb : l.length + r.length ≤ 10000000000000)
    (h : ∀ v' w', OwnO w0 w' v' (l ++ r) → Ext w0 w' → w.grownBy w' v.ownBlock → (v'.ownBlock = v.ownBlock ∨ v'.ownBlock = some w.heap.size) → wpList Try.prog ops Q rest (a.put o.dst v') w') : wpList Try.prog ops Q (o :: rest) a w := by
  refine wpList_plain hgd fun K hK => ?_
  obtain ⟨i, hi, hz0, hz1, hz2⟩ := info_parts infoO
  subst hm
  obtain ⟨v', w', hrun, h2, h3, h4⟩ := run_append_rowB (P := Try.prog) w w0.heap.size 32 o.type 25 i _ 2 8 Try.underlying32 hi hz0 hz1 hz2 rfl (by omega) v l.length _ hown A r.length c _ (flat_len encO_len r) hr (flat_one_cell encO_one r)
    (by unfold maxLen; omega) (by omega) hx.size
  unfold Oper.wp execOp
  simp only [ho, resolve, invoke, builtin, Sem.run_bind, Sem.run_pure, Result.andThen_ok, List.map_toArray, List.map_cons, List.map_nil, hs, he, hrun]
  refine hK _ _ (h v' w' ?_ (hx.grown h3 (OwnG.lt hown)) h3 h4)
  unfold OwnO OwnG
  rw [flat_append, List.length_append]
  exact h2

/-- a row of flags -/
def FlS (W : World) (b : Nat) (d : List Bool) : Prop := W.rowIs b 4 d.length fun i => .bool (d[i]?.getD true)
theorem FlS.grown {W W' : World} {b : Nat} {d : List Bool} {row : Option Nat} (h : FlS W b d) (hg : W.grownBy W' row) (hn : some b ≠ row) : FlS W' b d := by
  obtain ⟨c, h1, h2, h3⟩ := h
  exact ⟨c, by rw [hg.block b (Array.getElem?_eq_some_iff.1 h1).1 hn]; exact h1, h2, h3⟩
theorem FlS.ext {W W' : World} {b : Nat} {d : List Bool} (h : FlS W b d) (hx : Ext W W') : FlS W' b d := by
  obtain ⟨c, h1, h2, h3⟩ := h
  exact ⟨c, by rw [RowKit.Below.block hx b (Array.getElem?_eq_some_iff.1 h1).1]; exact h1, h2, h3⟩
theorem FlS.lt {W : World} {b : Nat} {d : List Bool} (h : FlS W b d) : b < W.heap.size := by
  obtain ⟨c, h1, _⟩ := h
  exact (Array.getElem?_eq_some_iff.1 h1).1
theorem FlS.cell {W : World} {b : Nat} {d : List Bool} (h : FlS W b d) {i : Nat} {x : Bool} (hi : d[i]? = some x) : W.cell? ⟨b, i, none⟩ = some (.bool x) := by
  have := World.rowIs.cell h (List.getElem?_eq_some_iff.1 hi).1
  rw [hi] at this
  exact this
theorem FlS.thaw {W : World} {b : Nat} {d : List Bool} (h : FlS W b d) (i : Nat) : W.frozen? ⟨b, i, none⟩ = false := World.rowIs.frozen h i
theorem FlS.store {W : World} {b : Nat} {d : List Bool} (h : FlS W b d) {i : Nat} (hi : i < d.length) : FlS (W.setCell ⟨b, i, none⟩ (.bool true)) b (d.set i true) := by
  unfold FlS
  rw [List.length_set]
  refine (World.rowIs.set h i (.bool true)).congr ?_
  intro j hj
  rw [List.getElem?_set]
  by_cases e : j = i
  · subst e
    simp [hi]
  · have e' : ¬ i = j := fun k => e k.symm
    simp [e, e']
theorem FlS.made (W : World) (n : Nat) : FlS (W.alloc (.cells (madeCells #[.bool false] n) 4)) W.heap.size (List.replicate n false) := by
  unfold FlS
  rw [List.length_replicate]
  refine (World.rowIs_made W (.bool false) n 4).congr ?_
  intro j hj
  rw [List.getElem?_replicate, if_pos hj]
  rfl
theorem infoBl : (Try.prog.info? 4).map (fun i => (i.zero, i.size, i.bytes)) = some (some (.bool false), 1, 1) := by kernel_rfl
theorem make_flags (n : Nat) (hn : n ≤ 1000000000000) (W : World) : (Instr.makeSlice 69 (.int .i64 (n : Int)) (.int .i64 (n : Int))).run Try.prog W = .ok (.slice (some ⟨W.heap.size, 0, none⟩) n n) (W.alloc (.cells (madeCells #[.bool false] n) 4)) :=
  run_make_row' 69 4 (.bool false) 1 Try.underlying69 infoBl rfl .i64 .i64 n (by omega) (by omega) W

end Go.Proofs.Ytnocdfmmhnnbeaa

namespace Go.Proofs.Ytnocdfmmhnnbeaa
open Go.ChangeShapes Go.WideShapes Go.ChangeAt Go.RowKit Go.Sort
set_option linter.unusedVariables false
set_option linter.unusedSimpArgs false
attribute [local go_sem] World.cell?_alloc_some

def encH (x : Hg) : List Value := [Vu x.on.1, Vu x.on.2, .bool x.right]
abbrev hgv (x : Hg) : Value := .agg #[.int .u32 x.on.1, .int .u32 x.on.2, .bool x.right]
theorem encH_len (p : Hg) : (encH p).length = 3 := rfl
theorem encH_one (p : Hg) : ∀ u ∈ encH p, u.oneCell' = true := by intro u hu; simp [encH] at hu; rcases hu with rfl | rfl | rfl <;> rfl
theorem infoH : (Try.prog.info? 37).map (fun i => (i.zero, i.size, i.bytes)) = some (some (.agg #[.int .u32 0, .int .u32 0, .bool false]), 3, 12) := by kernel_rfl
/-- from that address on lie these -/
def HgS (w : World) (A : Option Addr) (l : List Hg) : Prop := Row w A (flat encH l)
theorem HgS.ext {w w' : World} {A : Option Addr} {l : List Hg} (h : HgS w A l) (hx : Ext w w') : HgS w' A l := Row.ext h hx
structure HgC (w : World) (b o : Nat) (x : Hg) : Prop where
  c0 : w.cell? ⟨b, o, none⟩ = some (Vu x.on.1)
  c1 : w.cell? ⟨b, o + 1, none⟩ = some (Vu x.on.2)
  c2 : w.cell? ⟨b, o + 2, none⟩ = some (.bool x.right)
theorem HgC.ext {w w' : World} {b o : Nat} {x : Hg} (h : HgC w b o x) (hx : Ext w w') : HgC w' b o x := ⟨hx.keep h.c0, hx.keep h.c1, hx.keep h.c2⟩
theorem HgS.at {w : World} {A : Option Addr} {l : List Hg} (h : HgS w A l) {k : Nat} (hk : k < l.length) : ∃ b o x, A = some ⟨b, o, none⟩ ∧ l[k]? = some x ∧ HgC w b (o + k * 3) x := by
  obtain ⟨x, hp⟩ : ∃ p, l[k]? = some p := ⟨l[k], List.getElem?_eq_getElem hk⟩
  obtain ⟨b, o, e, hc⟩ := Row.at h encH_len hp (by omega)
  exact ⟨b, o, x, e, hp, hc 0 _ rfl, hc 1 _ rfl, hc 2 _ rfl⟩
theorem HgS.new (w : World) (x : Hg) : HgS (w.alloc (.cells #[.int .u32 x.on.1, .int .u32 x.on.2, .bool x.right] 37)) (some ⟨w.heap.size, 0, none⟩) [x] := Row.new w #[.int .u32 x.on.1, .int .u32 x.on.2, .bool x.right] 37
/-- a row of the call's own -/
def OwnH (w W : World) (v : Value) (l : List Hg) : Prop := OwnG 37 3 w W v l.length (flat encH l)
theorem OwnH.nil (w W : World) : OwnH w W (.slice none 0 0) [] := OwnG.nil _ _ _ _
theorem OwnH.ext {w W W' : World} {v : Value} {l : List Hg} (h : OwnH w W v l) (hx : Ext W W') : OwnH w W' v l := OwnG.ext h hx
theorem OwnH.down {w0 w W : World} {v : Value} {l : List Hg} (h : OwnH w W v l) (hx : Ext w0 w) : OwnH w0 W v l := OwnG.down h hx
theorem OwnH.open {w W : World} {v : Value} {l : List Hg} (h : OwnH w W v l) : ∃ A c, v = .slice A l.length c ∧ l.length ≤ c ∧ HgS W A l := by
  obtain ⟨A, c, rfl, hc⟩ := OwnG.form h
  exact ⟨A, c, rfl, hc, OwnG.row h⟩
theorem wpList_append_H {w0 w : World} {ops : Array Oper} {rest : List Oper} {o : Oper} {a : Act} {Q : Exit → Act → World → Prop} (hgd : o.guard = none) (s x : Operand)
    (ho : o.op = .call { callee := .builtin .append, args := #[s, x], argTypes := #[50, 50] })
    (v : Value) (l : List Hg) (hs : a.eval s = v) (hown : OwnH w0 w v l) (hx : Ext w0 w)
    (A : Option Addr) (m c : Nat) (r : List Hg) (he : a.eval x = .slice A m c) (hm : r.length = m) (hr : HgS w A r) (hb : l.length + r.length ≤ 10000000000000)
    (h : ∀ v' w', OwnH w0 w' v' (l ++ r) → Ext w0 w' → w.grownBy w' v.ownBlock → (v'.ownBlock = v.ownBlock ∨ v'.ownBlock = some w.heap.size) → wpList Try.prog ops Q rest (a.put o.dst v') w') : wpList Try.prog ops Q (o :: rest) a w := by
  refine wpList_plain hgd fun K hK => ?_
  obtain ⟨i, hi, hz0, hz1, hz2⟩ := info_parts infoH
  subst hm
  obtain ⟨v', w', hrun, h2, h3, h4⟩ := run_append_rowB (P := Try.prog) w w0.heap.size 50 o.type 37 i _ 3 12 Try.underlying50 hi hz0 hz1 hz2 rfl (by omega) v l.length _ hown A r.length c _ (flat_len encH_len r) hr (flat_one_cell encH_one r)
    (by unfold maxLen; omega) (by omega) hx.size
  unfold Oper.wp execOp
  simp only [ho, resolve, invoke, builtin, Sem.run_bind, Sem.run_pure, Result.andThen_ok, List.map_toArray, List.map_cons, List.map_nil, hs, he, hrun]
  refine hK _ _ (h v' w' ?_ (hx.grown h3 (OwnG.lt hown)) h3 h4)
  unfold OwnH OwnG
  rw [flat_append, List.length_append]
  exact h2

def optV : Option Nat → Int
  | none => -1
  | some i => (i : Int)
theorem fndV_opt (l : List It) (a : I2) : fndV l a = optV (fnd l a) := by
  unfold fndV optV
  cases fnd l a <;> rfl
theorem fnd_lt {l : List It} {a : I2} {i : Nat} (h : fnd l a = some i) : i < l.length := by
  obtain ⟨x, hx, _⟩ := fnd_some h
  exact (List.getElem?_eq_some_iff.1 hx).1
/-- is a below b, by what all hang on? -/
def belV (l : List It) (hs : List Hg) (a b : I2) : Bool := decide (b.1 = 0) || clm l hs b (l.length + 1) (fnd l a)
theorem clm_none (l : List It) (hs : List Hg) (b : I2) (n : Nat) : clm l hs b n none = false := by cases n <;> rfl
theorem clm_here {l : List It} {hs : List Hg} {b : I2} {n i : Nat} {h : Hg} (hi : hs[i]? = some h) (e : h.on = b) : clm l hs b (n + 1) (some i) = true := by rw [clm, hi]; simp [e]
theorem clm_up {l : List It} {hs : List Hg} {b : I2} {n i : Nat} {h : Hg} (hi : hs[i]? = some h) (e : h.on ≠ b) : clm l hs b (n + 1) (some i) = clm l hs b n (fnd l h.on) := by rw [clm, hi]; simp [e]

set_option maxRecDepth 100000 in
set_option maxHeartbeats 8000000 in
theorem below_ref (A B : Option Addr) (n cap cap2 : Nat) (l : List It) (hs : List Hg) (c k c2 k2 : Int) (w : World) (hv : ItS w A l) (hu : HgS w B hs) (hn : l.length = n) (hm : hs.length = n) (hb : n ≤ 1000000000000000) :
    Calls Try.prog 33 #[.slice A n cap, .slice B n cap2, idv c k, idv c2 k2] w fun e w' => e = .returned (.bool (belV l hs (c, k) (c2, k2))) ∧ Ext w w' := by
  replace hv := Lib.hid hv
  replace hu := Lib.hid hu
  by_cases e0 : c2 = 0
  · have g0 : (c2 == 0) = true := by simpa using e0
    have hz := Lib.hid (show belV l hs (c, k) (c2, k2) = true by unfold belV; simp [e0])
    clear e0
    go_enter Try.func33, Try.ntmps33
    go_wp2
    go_ret
    exact ⟨ret_bool hz.out.symm, ((Ext.refl _).alloc _).alloc _⟩
  · have g0 : (c2 == 0) = false := by simpa using e0
    obtain ⟨R, hR⟩ : ∃ R : Bool, belV l hs (c, k) (c2, k2) = R := ⟨_, rfl⟩
    rw [hR]
    have hR0 : clm l hs (c2, k2) (l.length + 1) (fnd l (c, k)) = R := by rw [← hR]; unfold belV; simp [e0]
    rw [hn] at hR0
    replace hR0 := Lib.hid hR0
    clear hR e0
    have hcall := Lib.hid (fun (a k : Int) (W : World) (hW : Ext w W) => find_ref A n cap l a k W (hv.out.ext hW) hn (by omega))
    have hlt := Lib.hid (fun (a : I2) (i : Nat) (h : fnd l a = some i) => (show i < n from hn ▸ fnd_lt h))
    replace hn := Lib.hid hn
    replace hm := Lib.hid hm
    have heq := idT_eql
    go_enter Try.func33, Try.ntmps33
    go_wp2_with fail
    refine (hcall.out _ _ _ (((Ext.refl _).alloc _).alloc _)).mono ?_
    rintro e w1 ⟨rfl, x1⟩
    rw [fndV_opt]
    have y0 := x1.keep (p := ⟨w.heap.size + 1, 0, none⟩) (v := Vu c2) (by simp [go_sem])
    have y1 := x1.keep (p := ⟨w.heap.size + 1, 1, none⟩) (v := Vu k2) (by simp [go_sem])
    have xw : Ext w w1 := (((Ext.refl _).alloc _).alloc _).trans x1
    clear x1
    generalize w.heap.size = pa at *
    have hl0 := Lib.hid (hlt.out (c, k))
    generalize fnd l (c, k) = o0 at *
    go_wp2
    go_loopw [9, 10] (fun i q W => ∃ (j : Nat) (o : Option Nat), j ≤ n + 1 ∧ q = Vi j ∧ i = Vi (optV o) ∧ Hid (∀ z, o = some z → z < n) ∧ Hid (clm l hs (c2, k2) (n + 1 - j) o = R) ∧ Ext w1 W) (fun _ q _ => n + 1 - (intOf q).toNat)
    case atStart => exact ⟨0, o0, by omega, rfl, rfl, hl0, hR0, Ext.refl _⟩
    case round =>
      clear hR0 hl0
      obtain ⟨j, o, hj, rfl, rfl, hol, hrel, hx⟩ := hrel
      replace y0 := hx.keep y0
      replace y1 := hx.keep y1
      by_cases hjn : j ≤ n
      · have g1 : decide ((j : Int) ≤ (n : Int)) = true := decide_eq_true (by omega)
        cases o with
        | none =>
          have hz := Lib.hid (show false = R by rw [← hrel.out, clm_none])
          have g2 : decide (0 ≤ optV none) = false := by decide
          go_wp2
          go_ret
          exact ⟨ret_bool hz.out, xw.trans hx⟩
        | some i =>
          have hin := hol.out i rfl
          have g2 : decide (0 ≤ optV (some i)) = true := by show decide (0 ≤ (i : Int)) = true; exact decide_eq_true (by omega)
          have hov : optV (some i) = (i : Int) := rfl
          obtain ⟨b, ob, h, hB, hp, d⟩ := (hu.out.ext (xw.trans hx)).at (k := i) (by rw [hm.out]; exact hin)
          obtain ⟨d0, d1, d2⟩ := d
          subst hB
          have hi1 : (0 : Int) ≤ (i : Int) := by omega
          have hi2 : (i : Int) < (n : Int) := by omega
          by_cases hs2 : h.on.1 = c2 ∧ h.on.2 = k2
          · have hd : decide (h.on.1 = c2 ∧ h.on.2 = k2) = true := decide_eq_true hs2
            have hz := Lib.hid (show true = R by rw [← hrel.out, show n + 1 - j = (n - j) + 1 by omega, clm_here hp (Prod.ext hs2.1 hs2.2)])
            have hq : ∀ W : World, (binOp .eql 25 (.agg #[.int .u32 h.on.1, .int .u32 h.on.2]) (.agg #[.int .u32 c2, .int .u32 k2])).run Try.prog W = .ok (.bool true) W := fun W => by rw [idT_eql, hd]
            clear hs2 hd hp hrel heq hol
            rw [hov] at g2 ⊢
            go_wp2
            go_quiet (fail)
            go_wp2
            go_ret
            exact ⟨ret_bool hz.out, (xw.trans hx).drewN _⟩
          · have hd : decide (h.on.1 = c2 ∧ h.on.2 = k2) = false := decide_eq_false hs2
            have hz := Lib.hid (show clm l hs (c2, k2) (n + 1 - (j + 1)) (fnd l h.on) = R by rw [← hrel.out, show n + 1 - j = (n - j) + 1 by omega, clm_up hp (fun e => hs2 ⟨congrArg Prod.fst e, congrArg Prod.snd e⟩), show n + 1 - (j + 1) = n - j by omega])
            have hq : ∀ W : World, (binOp .eql 25 (.agg #[.int .u32 h.on.1, .int .u32 h.on.2]) (.agg #[.int .u32 c2, .int .u32 k2])).run Try.prog W = .ok (.bool false) W := fun W => by rw [idT_eql, hd]
            clear hs2 hd hp hrel heq hol
            rw [hov] at g2 ⊢
            go_wp2
            go_quiet (fail)
            go_wp2_with fail
            refine (hcall.out _ _ _ ((xw.trans hx).drewN _)).mono ?_
            rintro e w2 ⟨rfl, x2⟩
            rw [fndV_opt]
            have hl2 := Lib.hid (hlt.out (h.on.1, h.on.2))
            go_wp2
            go_roundw
            case rel => exact ⟨j + 1, _, by omega, by go_num, rfl, hl2, hz, (hx.drewN _).trans x2⟩
            case measure => simp [intOf]; omega
      · have hje : j = n + 1 := by omega
        have hz := Lib.hid (show false = R by rw [← hrel.out, hje, Nat.sub_self]; rfl)
        have g1 : decide ((j : Int) ≤ (n : Int)) = false := decide_eq_false (by omega)
        clear hje
        go_wp2
        go_ret
        exact ⟨ret_bool hz.out, xw.trans hx⟩

end Go.Proofs.Ytnocdfmmhnnbeaa

namespace Go.Proofs.Ytnocdfmmhnnbeaa
open Go.ChangeShapes Go.WideShapes Go.ChangeAt Go.RowKit Go.Sort
set_option linter.unusedVariables false
set_option linter.unusedSimpArgs false
attribute [local go_sem] World.cell?_alloc_some

/-- a block that holds on what one hangs -/
def HgIs (W : World) (q : Nat) (x : Hg) : Prop := W.heap[q]? = some (.cells #[Vu x.on.1, Vu x.on.2, .bool x.right] 37 (0, 0))
theorem HgIs.ext {W W' : World} {q : Nat} {x : Hg} (h : HgIs W q x) (hx : Ext W W') : HgIs W' q x := by
  unfold HgIs at h ⊢
  rw [RowKit.Below.block hx q (Array.getElem?_eq_some_iff.1 h).1]; exact h
theorem HgIs.store {W : World} {q : Nat} {x : Hg} (h : HgIs W q x) (a b : Int) (r : Bool) : HgIs (((W.setCell ⟨q, 0, none⟩ (Vu a)).setCell ⟨q, 1, none⟩ (Vu b)).setCell ⟨q, 2, none⟩ (.bool r)) q ⟨(a, b), r⟩ :=
  heap_setCell_same _ _ 2 _ _ _ (heap_setCell_same _ _ 1 _ _ _ (heap_setCell_same _ _ 0 _ _ _ h))
theorem HgIs.on {W : World} {q : Nat} {x : Hg} (h : HgIs W q x) (a b : Int) : HgIs ((W.setCell ⟨q, 0, none⟩ (Vu a)).setCell ⟨q, 1, none⟩ (Vu b)) q ⟨(a, b), x.right⟩ :=
  heap_setCell_same _ _ 1 _ _ _ (heap_setCell_same _ _ 0 _ _ _ h)
theorem HgIs.cells {W : World} {q : Nat} {x : Hg} (h : HgIs W q x) : W.cell? ⟨q, 0, none⟩ = some (Vu x.on.1) ∧ W.cell? ⟨q, 1, none⟩ = some (Vu x.on.2) ∧ W.cell? ⟨q, 2, none⟩ = some (.bool x.right) :=
  ⟨by rw [cell_of_row W q 0 _ _ _ h]; rfl, by rw [cell_of_row W q 1 _ _ _ h]; rfl, by rw [cell_of_row W q 2 _ _ _ h]; rfl⟩
theorem HgIs.thaw {W : World} {q : Nat} {x : Hg} (h : HgIs W q x) (o : Nat) : W.frozen? ⟨q, o, none⟩ = false := frozen_of_row W q o _ _ h
theorem HgIs.lt {W : World} {q : Nat} {x : Hg} (h : HgIs W q x) : q < W.heap.size := (Array.getElem?_eq_some_iff.1 h).1
theorem HgIs.new (W : World) (a b : Int) (r : Bool) : HgIs (W.alloc (.cells #[.int .u32 a, .int .u32 b, .bool r] 37)) W.heap.size ⟨(a, b), r⟩ := heap_alloc_new W _

/-- on what an item hangs, by what all others hang on -/
def plcV (l : List It) (hs : List Hg) (x : It) : Hg := if x.rc ≠ 0 ∧ belV l hs (irt x) (ilf x) = true then ⟨irt x, false⟩ else ⟨ilf x, true⟩
/-- the root has one Id alone -/
def fixV (x : It) (h : Hg) : Hg := if x.lc = 0 ∧ h.right = true then ⟨(0, 0), true⟩ else h
theorem plc_is {l : List It} {x : It} (hl : knownI l = true) (hx : knownX l x = true) : fixV x (plcV l (hangsP l) x) = hgP l x := by
  obtain ⟨_, _, h3, h4⟩ := knownX_spec hx
  unfold hgP plcP plcV
  by_cases hr : x.rc = 0
  · rw [if_neg (fun e => e.1 hr), if_neg (fun e => e.1 hr)]
    unfold fixV
    by_cases hL : x.lc = 0
    · rw [if_pos ⟨hL, rfl⟩, if_pos hL]
    · rw [if_neg (fun e => hL e.1), if_neg hL]
  · have hh := h4.resolve_left hr
    have hb : belV l (hangsP l) (irt x) (ilf x) = blwP l (paths l) (irt x) (ilf x) := blw_clm hl hh
    rw [hb]
    by_cases hu : blwP l (paths l) (irt x) (ilf x) = true
    · rw [if_pos ⟨hr, hu⟩, if_pos ⟨hr, hu⟩]
      unfold fixV
      rw [if_neg (fun e => by cases e.2)]
    · rw [if_neg (fun e => hu e.2), if_neg (fun e => hu e.2)]
      unfold fixV
      by_cases hL : x.lc = 0
      · rw [if_pos ⟨hL, rfl⟩, if_pos hL]
      · rw [if_neg (fun e => hL e.1), if_neg hL]

set_option maxRecDepth 100000 in
set_option maxHeartbeats 8000000 in
theorem place_ref (A B : Option Addr) (n cap cap2 : Nat) (l : List It) (hs : List Hg) (x : It) (w : World) (hv : ItS w A l) (hu : HgS w B hs) (hn : l.length = n) (hm : hs.length = n) (hb : n ≤ 1000000000000000) :
    Calls Try.prog 27 #[.slice A n cap, .slice B n cap2, itv x] w fun e w' => e = .returned (hgv (plcV l hs x)) ∧ Ext w w' := by
  have hcall := Lib.hid (fun (W : World) (hW : Ext w W) => below_ref A B n cap cap2 l hs x.rc x.rk x.lc x.lk W (hv.ext hW) (hu.ext hW) hn hm hb)
  clear hv hu hn hm
  have hpl : plcV l hs x = if x.rc ≠ 0 ∧ belV l hs (x.rc, x.rk) (x.lc, x.lk) = true then ⟨(x.rc, x.rk), false⟩ else ⟨(x.lc, x.lk), true⟩ := rfl
  generalize belV l hs (x.rc, x.rk) (x.lc, x.lk) = un at *
  generalize plcV l hs x = R at *
  go_enter Try.func27, Try.ntmps27
  go_wp2_with fail
  refine (hcall.out _ (((Ext.refl _).alloc _).alloc _)).mono ?_
  rintro e w1 ⟨rfl, x1⟩
  have xw : Ext w w1 := (((Ext.refl _).alloc _).alloc _).trans x1
  have b0 : HgIs w1 (w.heap.size + 1) ⟨(0, 0), false⟩ := by
    have := HgIs.new (w.alloc (.cells #[.int .u32 x.c, .int .u32 x.k, .int .u32 x.lc, .int .u32 x.lk, .int .u32 x.rc, .int .u32 x.rk, .int .i32 x.ch] 27)) 0 0 false
    rw [show (w.alloc (.cells #[.int .u32 x.c, .int .u32 x.k, .int .u32 x.lc, .int .u32 x.lk, .int .u32 x.rc, .int .u32 x.rk, .int .i32 x.ch] 27)).heap.size = w.heap.size + 1 by simp] at this
    exact this.ext x1
  have a2 := x1.keep (p := ⟨w.heap.size, 2, none⟩) (v := Vu x.lc) (by simp [go_sem])
  have a3 := x1.keep (p := ⟨w.heap.size, 3, none⟩) (v := Vu x.lk) (by simp [go_sem])
  have a4 := x1.keep (p := ⟨w.heap.size, 4, none⟩) (v := Vu x.rc) (by simp [go_sem])
  have a5 := x1.keep (p := ⟨w.heap.size, 5, none⟩) (v := Vu x.rk) (by simp [go_sem])
  clear x1
  have hwb : w.heap.size ≤ w.heap.size + 1 := by omega
  obtain ⟨pb, hpb⟩ : ∃ pb, w.heap.size + 1 = pb := ⟨_, rfl⟩
  obtain ⟨pa, hpa⟩ : ∃ pa, w.heap.size = pa := ⟨_, rfl⟩
  rw [hpb] at b0 hwb ⊢
  rw [hpa] at a2 a3 a4 a5 ⊢
  obtain ⟨k0, k1, k2⟩ := b0.cells
  have f0 := b0.thaw 0
  have f1 := b0.thaw 1
  have f2 := b0.thaw 2
  clear hpa hpb
  replace b0 := Lib.hid b0
  by_cases e0 : x.rc = 0
  · have g0 : (x.rc != 0) = false := by simpa using e0
    replace hpl := Lib.hid (show R = ⟨(x.lc, x.lk), true⟩ by rw [hpl, if_neg (fun e => e.1 e0)])
    clear e0
    go_wp2
    obtain ⟨z0, z1, z2⟩ := (b0.out.store x.lc x.lk true).cells
    exact bodyPost_ret (v := hgv ⟨(x.lc, x.lk), true⟩) (by simp [results, Try.results27, go_sem, z0, z1, z2]) rfl ⟨by rw [hpl.out], ((xw.setCell hwb _).setCell hwb _).setCell hwb _⟩
  · have g0 : (x.rc != 0) = true := by simpa using e0
    cases un with
    | false =>
      replace hpl := Lib.hid (show R = ⟨(x.lc, x.lk), true⟩ by rw [hpl, if_neg (fun e => by cases e.2)])
      clear e0
      go_wp2
      obtain ⟨z0, z1, z2⟩ := (b0.out.store x.lc x.lk true).cells
      exact bodyPost_ret (v := hgv ⟨(x.lc, x.lk), true⟩) (by simp [results, Try.results27, go_sem, z0, z1, z2]) rfl ⟨by rw [hpl.out], ((xw.setCell hwb _).setCell hwb _).setCell hwb _⟩
    | true =>
      replace hpl := Lib.hid (show R = ⟨(x.rc, x.rk), false⟩ by rw [hpl, if_pos ⟨e0, rfl⟩])
      clear e0
      go_wp2
      obtain ⟨z0, z1, z2⟩ := (b0.out.store x.rc x.rk false).cells
      exact bodyPost_ret (v := hgv ⟨(x.rc, x.rk), false⟩) (by simp [results, Try.results27, go_sem, z0, z1, z2]) rfl ⟨by rw [hpl.out], ((xw.setCell hwb _).setCell hwb _).setCell hwb _⟩

end Go.Proofs.Ytnocdfmmhnnbeaa

namespace Go.Proofs.Ytnocdfmmhnnbeaa
open Go.ChangeShapes Go.WideShapes Go.ChangeAt Go.RowKit Go.Sort
set_option linter.unusedVariables false
set_option linter.unusedSimpArgs false
attribute [local go_sem] World.cell?_alloc_some

theorem hgT_neq (a b : Hg) (W : World) : (binOp .neq 37 (hgv a) (hgv b)).run Try.prog W = .ok (.bool (!decide (a.on = b.on ∧ a.right = b.right))) W := by
  obtain ⟨⟨a1, a2⟩, a3⟩ := a
  obtain ⟨⟨b1, b2⟩, b3⟩ := b
  by_cases h1 : a1 = b1
  · by_cases h2 : a2 = b2
    · subst h1; subst h2
      cases a3 <;> cases b3 <;> simp [go_sem]
    · have h : (a2 == b2) = false := by simpa using h2
      subst h1
      simp [go_sem, h, h2]
  · have h : (a1 == b1) = false := by simpa using h1
    simp [go_sem, h, h1]
theorem OwnO.away {w W W' : World} {v : Value} {l : List I2} (h : OwnO w W v l) (hk : ∀ g, v.ownBlock = some g → W'.heap[g]? = W.heap[g]?) : OwnO w W' v l := by
  unfold OwnO OwnG at h ⊢
  rcases h with ⟨h1, h2 | ⟨g, cap, cur, h2, h3, h4, h5⟩⟩
  · exact ⟨h1, .inl h2⟩
  · refine ⟨h1, .inr ⟨g, cap, cur, h2, h3, ?_, h5⟩⟩
    rw [hk g (by rw [h2]; rfl)]; exact h4
theorem done_zero (l : List It) (K : List I2) : doneI l (K.take 0) = List.replicate l.length false := by
  unfold doneI
  simp [List.map_const']
/-- the least of one more -/
theorem bst_not {l : List It} {hs : List Hg} {g : Hg} {d : List Bool} {q : Nat} {z : Hg} {f : Bool} (hz : hs[q]? = some z) (hf : d[q]? = some f) (h : ¬ (z.on = g.on ∧ z.right = g.right) ∨ f = true) : bstN l hs g d (q + 1) = bstN l hs g d q := by
  have : cand hs g d q = false := by
    unfold cand
    rw [hz, hf]
    rcases h with h | h
    · simp [h]
    · simp [h]
  rw [bstN, this]; rfl
theorem bst_yes {l : List It} {hs : List Hg} {g : Hg} {d : List Bool} {q : Nat} {z : Hg} (hz : hs[q]? = some z) (hf : d[q]? = some false) (h : z.on = g.on ∧ z.right = g.right) : bstN l hs g d (q + 1) = match bstN l hs g d q with
    | none => some q
    | some b => if ltN l q b then some q else some b := by
  have : cand hs g d q = true := by
    unfold cand
    rw [hz, hf]
    simp [h]
  rw [bstN, this]; rfl

set_option maxRecDepth 100000 in
set_option maxHeartbeats 16000000 in
theorem walk_core (A B : Option Addr) (n cap cap2 : Nat) (l : List It) (hk : knownI l = true) (hn : l.length = n) (hb : n ≤ 1000000000000) (g : Hg) (w : World) (hv : ItS w A l) (hu : HgS w B (hangsP l)) (X Y : I2 → List I2)
    (hlen : ((kidS l g).flatMap fun c => X c ++ c :: Y c).length ≤ n)
    (hX : ∀ c ∈ kidS l g, ∀ W, Ext w W → Calls Try.prog 20 #[.slice A n cap, .slice B n cap2, hgv ⟨c, false⟩] W (RetO W (X c)))
    (hY : ∀ c ∈ kidS l g, ∀ W, Ext w W → Calls Try.prog 20 #[.slice A n cap, .slice B n cap2, hgv ⟨c, true⟩] W (RetO W (Y c))) :
    Calls Try.prog 20 #[.slice A n cap, .slice B n cap2, hgv g] w (RetO w ((kidS l g).flatMap fun c => X c ++ c :: Y c)) := by
  have hbn := Lib.hid (fun (r : Nat) (h : (kidS l g).length ≤ r) => hn ▸ best_none hk h)
  have hbs := Lib.hid (fun (r : Nat) (c : I2) (h : (kidS l g)[r]? = some c) => hn ▸ best_some hk h)
  have hds := Lib.hid (fun (r b : Nat) (c : I2) (x : It) (h : (kidS l g)[r]? = some c) (h2 : l[b]? = some x) (h3 : iid x = c) => done_step hk h h2 h3)
  have hKn := Lib.hid (show (kidS l g).length ≤ n from hn ▸ kid_len l g)
  have hhl := Lib.hid (show (hangsP l).length = n by rw [hangs_len, hn])
  have hd0 := Lib.hid (hn ▸ done_zero l (kidS l g))
  have hdl := Lib.hid (fun (r : Nat) => (show (doneI l ((kidS l g).take r)).length = n by rw [done_len, hn]))
  have hpl := Lib.hid (fun (r : Nat) => Nat.le_trans (part_len (K := kidS l g) (fun c => X c ++ c :: Y c) r) hlen)
  replace hlen := Lib.hid hlen
  replace hX := Lib.hid hX
  replace hY := Lib.hid hY
  replace hn := Lib.hid hn
  replace hk := Lib.hid hk
  replace hv := Lib.hid hv
  replace hu := Lib.hid hu
  generalize kidS l g = K at *
  generalize hangsP l = hs at *
  have hmk := make_flags n hb
  have hbef := Lib.hid (fun (a b c d : Int) (W : World) => before_any a b c d W)
  go_enter Try.func20, Try.ntmps20
  go_wp2
  have xp : Ext w (w.alloc (.cells #[.int .u32 g.on.1, .int .u32 g.on.2, .bool g.right] 37)) := (Ext.refl _).alloc _
  have gb := HgIs.new w g.on.1 g.on.2 g.right
  have hpd : (w.alloc (.cells #[.int .u32 g.on.1, .int .u32 g.on.2, .bool g.right] 37)).heap.size = w.heap.size + 1 := by simp
  generalize w.alloc (.cells #[.int .u32 g.on.1, .int .u32 g.on.2, .bool g.right] 37) = wp at *
  have fl0 := FlS.made wp n
  have x0 : Ext wp (wp.alloc (.cells (madeCells #[.bool false] n) 4)) := (Ext.refl _).alloc _
  generalize wp.alloc (.cells (madeCells #[.bool false] n) 4) = w1 at *
  rw [← hpd]
  obtain ⟨pd, hpdv⟩ : ∃ pd, wp.heap.size = pd := ⟨_, rfl⟩
  rw [hpdv] at fl0 ⊢
  have hpw := Lib.hid (show wp.heap.size ≤ pd by omega)
  replace hpdv := Lib.hid hpdv
  clear hpd
  obtain ⟨k0, k1, k2⟩ := gb.cells
  simp only at k0 k1 k2
  generalize w.heap.size = pb at *
  replace gb := Lib.hid gb
  have fl0' := Lib.hid (show FlS w1 pd (doneI l (K.take 0)) by rw [hd0.out]; exact fl0)
  clear fl0
  go_loopw [7, 9] (fun v i W => ∃ (r : Nat), r ≤ n ∧ i = Vi r ∧ Hid (OwnO wp W v ((K.take r).flatMap fun c => X c ++ c :: Y c)) ∧ Hid (FlS W pd (doneI l (K.take r))) ∧ Hid (∀ q, v.ownBlock = some q → q ≠ pd) ∧ Ext wp W) (fun _ i _ => n - (intOf i).toNat)
  case atStart => exact ⟨0, Nat.zero_le _, rfl, Lib.hid (OwnO.nil _ _), fl0', Lib.hid (fun q h => by cases h), x0⟩
  case round =>
    obtain ⟨r, hr, rfl, ho, hfl, haw, hx⟩ := hrel
    clear fl0' x0
    have hdr := Lib.hid (hdl.out r)
    have hbnr := Lib.hid (hbn.out r)
    have hbsr := Lib.hid (hbs.out r)
    by_cases hlt : r < n
    · go_wp2
      go_loopw [10, 11] (fun u i W => ∃ (q : Nat), q ≤ n ∧ i = Vi q ∧ Hid (u = Vi (optV (bstN l hs g (doneI l (K.take r)) q))) ∧ Ext wr W) (fun _ i _ => n - (intOf i).toNat)
      case atStart => exact ⟨0, Nat.zero_le _, rfl, Lib.hid rfl, Ext.refl _⟩
      case round =>
        obtain ⟨q, hq, rfl, hbest, hx2⟩ := hrel
        have hX2 := hx.trans hx2
        have hf2 := Lib.hid (hfl.out.ext hx2)
        by_cases hlt2 : q < n
        · obtain ⟨b, o, x, hA, hp, d⟩ := (hv.out.ext (xp.trans hX2)).at (k := q) (by rw [hn.out]; exact hlt2)
          obtain ⟨c0, c1, c2, c3, c4, c5, c6⟩ := d
          obtain ⟨b', o', z, hB, hz, dz⟩ := (hu.out.ext (xp.trans hX2)).at (k := q) (by rw [hhl.out]; exact hlt2)
          obtain ⟨z0, z1, z2⟩ := dz
          obtain ⟨f, hf⟩ : ∃ f, (doneI l (K.take r))[q]? = some f := ⟨_, List.getElem?_eq_getElem (by rw [hdr.out]; exact hlt2)⟩
          have fc := hf2.out.cell hf
          have y0 := hX2.keep k0
          have y1 := hX2.keep k1
          have y2 := hX2.keep k2
          have hi1 : (0 : Int) ≤ (q : Int) := by omega
          have hi2 : (q : Int) < (n : Int) := by omega
          by_cases hs1 : z.on = g.on ∧ z.right = g.right
          · have hne : ∀ W : World, (binOp .neq 37 (.agg #[.int .u32 z.on.1, .int .u32 z.on.2, .bool z.right]) (.agg #[.int .u32 g.on.1, .int .u32 g.on.2, .bool g.right])).run Try.prog W = .ok (.bool false) W := fun W => by rw [hgT_neq z g, decide_eq_true hs1]; rfl
            cases f with
            | true =>
              have hb2 := Lib.hid (bst_not (l := l) (g := g) hz hf (.inr rfl))
              clear hs1 hz hf hp
              subst hA
              subst hB
              go_wp2
              go_quiet (fail)
              go_wp2
              go_roundw
              case rel => exact ⟨q + 1, by omega, by go_num, Lib.hid (by rw [hb2.out]; exact hbest.out), hx2.drewN _⟩
              case measure => simp [intOf]; omega
            | false =>
              have hb2 := bst_yes (l := l) (g := g) hz hf hs1
              clear hs1 hz hf
              subst hA
              subst hB
              have c0' := fun k => cell_regrown (((Ext.refl wr).drewN k).keep c0)
              have c1' := fun k => cell_regrown (((Ext.refl wr).drewN k).keep c1)
              cases hb0 : bstN l hs g (doneI l (K.take r)) q with
              | none =>
                rw [hb0] at hb2
                replace hb2 := Lib.hid hb2
                have hu2 := hbest.out
                rw [hb0, show optV none = -1 from rfl] at hu2
                subst hu2
                have hbf : befId x.c x.k x.c x.k = false := by unfold befId; simp
                have hbefx := Lib.hid (fun W : World => hbf ▸ hbef.out x.c x.k x.c x.k W)
                clear hb0 hp hbf hbest
                go_wp2
                go_quiet (fail)
                go_wp2_with fail
                refine wp_region_quiet_below (by kernel_rfl) (by kernel_rfl) ?_
                repeat go_big_quiet_step ((with_reducible exact Calls.in_regrown (hbefx.out _)))
                refine wpQuiet_nil ?_
                intro _ hw'
                obtain ⟨⟨dq, osq⟩, hw''⟩ := hw'
                subst hw''
                go_wp2
                go_roundw
                case rel => exact ⟨q + 1, by omega, by go_num, Lib.hid (by rw [hb2.out]; rfl), (hx2.drewN _).trans (Ext.regrown _ _ _)⟩
                case measure => simp [intOf]; omega
              | some m =>
                have hm1 : m < q := ((bst_spec l hs g (doneI l (K.take r)) q).2 m hb0).1
                rw [hb0] at hb2
                have hu2 := hbest.out
                rw [hb0, show optV (some m) = (m : Int) from rfl] at hu2
                subst hu2
                obtain ⟨b2, o2, y, hA2, hp2, d2⟩ := (hv.out.ext (xp.trans hX2)).at (k := m) (by rw [hn.out]; omega)
                injection hA2 with hA2
                injection hA2 with hA2 hA3
                subst hA2
                subst hA3
                have e0' := fun k => cell_regrown (((Ext.refl wr).drewN k).keep d2.c0)
                have e1' := fun k => cell_regrown (((Ext.refl wr).drewN k).keep d2.c1)
                have hlN : ltN l q m = befId x.c x.k y.c y.k := by unfold ltN; rw [hp, hp2]; rfl
                have hi3 : (0 : Int) ≤ (m : Int) := by omega
                have hi4 : (m : Int) < (n : Int) := by omega
                have g1 : decide ((m : Int) < 0) = false := decide_eq_false (by omega)
                rw [show (match some m with | none => some q | some b => if ltN l q b = true then some q else some b) = if ltN l q m = true then some q else some m from rfl, hlN] at hb2
                have hbefx := Lib.hid (fun W : World => hbef.out x.c x.k y.c y.k W)
                clear hb0 hp hp2 hbest hlN
                cases hbv : befId x.c x.k y.c y.k with
                | true =>
                  rw [hbv] at hbefx hb2
                  rw [if_pos rfl] at hb2
                  replace hb2 := Lib.hid hb2
                  clear hbv
                  go_wp2
                  go_quiet (fail)
                  go_wp2_with fail
                  refine wp_region_quiet_below (by kernel_rfl) (by kernel_rfl) ?_
                  repeat go_big_quiet_step ((with_reducible exact Calls.in_regrown (hbefx.out _)))
                  refine wpQuiet_nil ?_
                  intro _ hw'
                  obtain ⟨⟨dq, osq⟩, hw''⟩ := hw'
                  subst hw''
                  go_wp2
                  go_roundw
                  case rel => exact ⟨q + 1, by omega, by go_num, Lib.hid (by rw [hb2.out]; rfl), (hx2.drewN _).trans (Ext.regrown _ _ _)⟩
                  case measure => simp [intOf]; omega
                | false =>
                  rw [hbv] at hbefx hb2
                  rw [if_neg (by simp)] at hb2
                  replace hb2 := Lib.hid hb2
                  clear hbv
                  go_wp2
                  go_quiet (fail)
                  go_wp2_with fail
                  refine wp_region_quiet_below (by kernel_rfl) (by kernel_rfl) ?_
                  repeat go_big_quiet_step ((with_reducible exact Calls.in_regrown (hbefx.out _)))
                  refine wpQuiet_nil ?_
                  intro _ hw'
                  obtain ⟨⟨dq, osq⟩, hw''⟩ := hw'
                  subst hw''
                  go_wp2
                  go_roundw
                  case rel => exact ⟨q + 1, by omega, by go_num, Lib.hid (by rw [hb2.out]; rfl), (hx2.drewN _).trans (Ext.regrown _ _ _)⟩
                  case measure => simp [intOf]; omega
          · have hne : ∀ W : World, (binOp .neq 37 (.agg #[.int .u32 z.on.1, .int .u32 z.on.2, .bool z.right]) (.agg #[.int .u32 g.on.1, .int .u32 g.on.2, .bool g.right])).run Try.prog W = .ok (.bool true) W := fun W => by rw [hgT_neq z g, decide_eq_false hs1]; rfl
            have hb2 := Lib.hid (bst_not (l := l) (g := g) hz hf (.inl hs1))
            clear hs1 hz hf hp
            subst hA
            subst hB
            go_wp2
            go_quiet (fail)
            go_wp2
            go_roundw
            case rel => exact ⟨q + 1, by omega, by go_num, Lib.hid (by rw [hb2.out]; exact hbest.out), hx2.drewN _⟩
            case measure => simp [intOf]; omega
        · have hqn : q = n := by omega
          rw [hqn] at hbest
          clear hqn hq
          cases hc : K[r]? with
          | none =>
            have hr2 : K.length ≤ r := List.getElem?_eq_none_iff.1 hc
            have hu2 := hbest.out
            rw [hbnr.out hr2, show optV none = -1 from rfl] at hu2
            subst hu2
            have hfull := Lib.hid (show K.take r = K from List.take_of_length_le hr2)
            rw [hfull.out] at ho
            clear hc hbest hr2
            go_wp2
            go_ret
            exact ⟨_, rfl, (ho.out.ext hx2).down xp, xp.trans hX2⟩
          | some c =>
            obtain ⟨b, x, hbb, hxb, hxc⟩ := hbsr.out c hc
            have hcK : c ∈ K := List.mem_of_getElem? hc
            have hu2 := hbest.out
            rw [hbb, show optV (some b) = (b : Int) from rfl] at hu2
            subst hu2
            have hbn2 : b < n := hn.out ▸ (List.getElem?_eq_some_iff.1 hxb).1
            obtain ⟨bb, oo, x', hA, hp, d⟩ := (hv.out.ext xp).at (k := b) (by rw [hn.out]; exact hbn2)
            rw [hxb] at hp
            injection hp with hp
            subst hp
            subst hA
            have hi3 : (0 : Int) ≤ (b : Int) := by omega
            have hi4 : (b : Int) < (n : Int) := by omega
            have g1 : decide ((b : Int) < 0) = false := decide_eq_false (by omega)
            have hstep := flat_take_step (fun c => X c ++ c :: Y c) hc
            have hl1 := hpl.out (r + 1)
            rw [hstep] at hl1
            replace hstep := Lib.hid hstep
            have hXc := Lib.hid (hX.out c hcK)
            have hYc := Lib.hid (hY.out c hcK)
            have hds2 := hds.out r b c x hc hxb hxc
            have hfS := Lib.hid (show FlS (wr.setCell ⟨pd, b, none⟩ (.bool true)) pd (doneI l (K.take (r + 1))) by rw [hds2]; exact hf2.out.store (by rw [hdr.out]; exact hbn2))
            obtain ⟨fq, hfq⟩ : ∃ f, (doneI l (K.take r))[b]? = some f := ⟨_, List.getElem?_eq_getElem (by rw [hdr.out]; exact hbn2)⟩
            have fc := hf2.out.cell hfq
            have ff := hf2.out.thaw b
            have xS := hX2.setCell (p := ⟨pd, b, none⟩) hpw.out (.bool true)
            have dS := d.ext xS
            obtain ⟨s0, s1, s2, s3, s4, s5, s6⟩ := dS
            have oS := Lib.hid ((ho.out.ext hx2).away (W' := wr.setCell ⟨pd, b, none⟩ (.bool true)) fun q hq => Below.heap_setCell _ _ _ _ (haw.out q hq))
            replace hxc := Lib.hid hxc.symm
            replace d := Lib.hid d
            generalize (K.take r).flatMap (fun c => X c ++ c :: Y c) = out at *
            generalize X c = Xc at *
            generalize Y c = Yc at *
            simp only [List.length_append, List.length_cons] at hl1
            clear hc hbest hbb hxb hds2 hfq hfl hf2 ho hx2 hcK
            go_wp2_with fail
            refine ((hxc.out ▸ hXc.out) _ (xp.trans xS)).mono ?_
            rintro e w3 ⟨v3, rfl, o3, x3⟩
            obtain ⟨A3, cc3, rfl, hc3, hO3⟩ := o3.open
            have oV3 := Lib.hid (oS.out.ext x3)
            have f3 := Lib.hid (hfS.out.ext x3)
            have xw3 := xS.trans x3
            have hp3 := Lib.hid f3.out.lt
            clear s0 s1 s2 s3 s4 s5 s6 fc ff o3 oS hfS xS x3 hX2 hlt2
            go_wp2_with (first
              | (at_builtin
                 refine wpList_append_O (w0 := wp) rfl (.tmp 61) (.tmp 70) rfl _ out rfl oV3.out xw3 _ _ _ Xc rfl rfl hO3 (by omega) ?_
                 intro v4 w4 o4 x4 g4 e4
                 have t0 := (d.out.ext x4).c0
                 have t1 := (d.out.ext x4).c1)
              | (at_builtin
                 refine wpList_append_O (w0 := wp) rfl (.tmp 72) (.tmp 78) rfl _ (out ++ Xc) rfl (o4.ext ((Ext.refl _).alloc _)) (x4.alloc _) _ 1 1 [(x.c, x.k)] rfl rfl (OdS.newAt (x.c, x.k) rfl) (by simp only [List.length_append, List.length_cons, List.length_nil]; omega) ?_
                 intro v5 w5 o5 x5 g5 e5
                 have t2 := (d.out.ext x5).c0
                 have t3 := (d.out.ext x5).c1)
              | fail)
            have aw4 : ∀ q, v4.ownBlock = some q → q ≠ pd := fun q hq => by
              rcases e4 with e | e
              · rw [e] at hq; exact haw.out q hq
              · rw [e] at hq; injection hq with hq; have := hp3.out; omega
            have f4 := Lib.hid (f3.out.grown g4 (fun e => haw.out pd e.symm rfl))
            have hp4 := f4.out.lt
            have aw5 : ∀ q, v5.ownBlock = some q → q ≠ pd := fun q hq => by
              rcases e5 with e | e
              · rw [e] at hq; exact aw4 q hq
              · rw [e] at hq; injection hq with hq; simp at hq; omega
            have f5 := Lib.hid ((f4.out.ext ((Ext.refl _).alloc _)).grown g5 (fun e => aw4 pd e.symm rfl))
            refine ((hxc.out ▸ hYc.out) _ (xp.trans x5)).mono ?_
            rintro e w6 ⟨v6, rfl, o6, x6⟩
            obtain ⟨A6, cc6, rfl, hc6, hO6⟩ := o6.open
            have f6 := Lib.hid (f5.out.ext x6)
            have hp6 := Lib.hid f6.out.lt
            have xw6 := x5.trans x6
            have o6' := Lib.hid (o5.ext x6)
            clear t0 t1 t2 t3 o4 x4 g4 e4 g5 e5 o6 x6 o5 x5 hp4 aw4
            go_wp2_with (first
              | (at_builtin
                 refine wpList_append_O (w0 := wp) rfl (.tmp 80) (.tmp 89) rfl _ (out ++ Xc ++ [(x.c, x.k)]) rfl o6'.out xw6 _ _ _ Yc rfl rfl hO6 (by simp only [List.length_append, List.length_cons, List.length_nil]; omega) ?_
                 intro v7 w7 o7 x7 g7 e7)
              | fail)
            have aw7 : ∀ q, v7.ownBlock = some q → q ≠ pd := fun q hq => by
              rcases e7 with e | e
              · rw [e] at hq; exact aw5 q hq
              · rw [e] at hq; injection hq with hq; have := hp6.out; omega
            have f7 := Lib.hid (f6.out.grown g7 (fun e => aw5 pd e.symm rfl))
            have ho7 := Lib.hid (show OwnO wp w7 v7 ((K.take (r + 1)).flatMap fun c => X c ++ c :: Y c) by
              rw [hstep.out]
              have : out ++ (Xc ++ c :: Yc) = out ++ Xc ++ [(x.c, x.k)] ++ Yc := by rw [hxc.out]; simp [iid]
              rw [this]; exact o7)
            clear hstep o7
            go_roundw
            case rel => exact ⟨r + 1, by omega, by go_num, ho7, f7, Lib.hid aw7, x7⟩
            case measure => simp [intOf]; omega
    · have hfull := Lib.hid (show K.take r = K from List.take_of_length_le (by have := hKn.out; omega))
      rw [hfull.out] at ho
      go_wp2
      go_ret
      exact ⟨_, rfl, ho.out.down xp, xp.trans hx⟩

end Go.Proofs.Ytnocdfmmhnnbeaa

namespace Go.Proofs.Ytnocdfmmhnnbeaa
open Go.ChangeShapes Go.WideShapes Go.ChangeAt Go.RowKit Go.Sort
set_option linter.unusedVariables false
set_option linter.unusedSimpArgs false

/-- what a slot holds, told of its value and of the world -/
abbrev Told := Value → World → Prop
/-- a row for each operation: its slot, and what that is told to hold -/
abbrev SoftTab := List (Nat × Told)

/-- the slots that are filled hold what is told; the others are as they were -/
structure SoftAt (tab : SoftTab) (a0 a : Act) (w W : World) (listed : Array Bool) : Prop where
  ext : Ext w W
  defers : a.defers = a0.defers
  size : a.tmps.size = a0.tmps.size
  out : ∀ t, t ∉ tab.map (·.1) → a.tmps[t]? = a0.tmps[t]?
  told : ∀ (k d : Nat) (R : Told), tab[k]? = some (d, R) → listed.getD k false = true → R (a.tmps.getD d undef) W

/-- one operation, whenever it comes up -/
def SoftStep (P : Program) (ops : Array Oper) (tab : SoftTab) (Q : Exit → Act → World → Prop) (a0 : Act) (w : World) (k : Nat) (o : Oper) : Prop :=
  ∀ a W, Ext w W → (∀ t, t ∉ tab.map (·.1) → a.tmps.getD t undef = a0.tmps.getD t undef) → (∀ e ∈ o.after.toList, Region.binds .any e = true → ∀ (d : Nat) (R : Told), tab[e.on]? = some (d, R) → R (a.tmps.getD d undef) W ∧ d < a.tmps.size) →
    ∀ (d : Nat) (R : Told), tab[k]? = some (d, R) → wpOp P ops Q k (fun a' W' => ∃ v, a' = a.put (some d) v ∧ R v W' ∧ Ext W W') a W

theorem tab_ne {tab : SoftTab} (hnd : (tab.map (·.1)).Nodup) {j k d1 d2 : Nat} {R1 R2 : Told} (h1 : tab[j]? = some (d1, R1)) (h2 : tab[k]? = some (d2, R2)) (hjk : j ≠ k) : d1 ≠ d2 := by
  intro e
  have e1 : (tab.map (·.1))[j]? = some d1 := by simp [h1]
  have e2 : (tab.map (·.1))[k]? = some d1 := by simp [h2, e]
  obtain ⟨hj, e1⟩ := List.getElem?_eq_some_iff.1 e1
  obtain ⟨hk, e2⟩ := List.getElem?_eq_some_iff.1 e2
  have hp := List.pairwise_iff_getElem.1 hnd
  rcases Nat.lt_or_gt_of_ne hjk with h | h
  · exact hp j k hj hk h (e1.trans e2.symm)
  · exact hp k j hk hj h (e2.trans e1.symm)

theorem count_set : ∀ (l : List Bool) (i : Nat), l[i]? = some false → (l.set i true).count false + 1 = l.count false
  | [], i, h => by simp at h
  | b :: l, 0, h => by
    obtain rfl : b = false := by simpa using h
    simp
  | b :: l, i + 1, h => by
    have := count_set l i (by simpa using h)
    rw [List.set_cons_succ, List.count_cons, List.count_cons]
    omega

theorem wpAny_soft {P : Program} {l : List Oper} {tab : SoftTab} {Q : Exit → Act → World → Prop} {a0 : Act} {w : World}
    (hlen : tab.length = l.length) (hnd : (tab.map (·.1)).Nodup) (hsz : ∀ d ∈ tab.map (·.1), d < a0.tmps.size)
    (hback : ∀ (k : Nat) (o : Oper), l[k]? = some o → ∀ e ∈ o.after.toList, e.on < k)
    (hmono : ∀ (k d : Nat) (R : Told), tab[k]? = some (d, R) → ∀ (v : Value) (W W' : World), R v W → Ext W W' → R v W')
    (hstep : ∀ (k : Nat) (o : Oper), l[k]? = some o → SoftStep P l.toArray tab Q a0 w k o)
    (hend : ∀ a W, SoftAt tab a0 a w W (Array.replicate l.length true) → Q .normal a W) :
    ∀ (fuel : Nat) (listed : Array Bool) (a : Act) (W : World), listed.size = l.length → listed.toList.count false ≤ fuel → SoftAt tab a0 a w W listed → wpAny P .any l.toArray Q fuel listed a W := by
  have hall : ∀ (listed : Array Bool), listed.size = l.length → Region.ready .any l.toArray listed = [] → listed = Array.replicate l.length true := by
    intro listed hs hr
    have key : ∀ k, k < l.length → listed.getD k false = true := by
      intro k
      induction k using Nat.strongRecOn with
      | ind k ih =>
        intro hk
        rcases hb : listed.getD k false with _ | _
        · exfalso
          have hk' : k < listed.size := by omega
          have hm : k ∈ Region.ready .any l.toArray listed := by
            rw [mem_ready]
            refine ⟨?_, l[k], by simp [hk], fun e he hb' => ?_⟩
            · simp only [Array.getD, hk', dif_pos] at hb ⊢; exact hb
            · have hlt := hback k l[k] (List.getElem?_eq_getElem hk) e (by simpa using he)
              exact ih e.on hlt (by omega)
          rw [hr] at hm
          cases hm
        · rfl
    apply Array.ext
    · simp [hs]
    · intro i h1 h2
      have := key i (by omega)
      simp only [Array.getD, h1, dif_pos] at this
      simpa using this
  intro fuel
  induction fuel with
  | zero =>
    intro listed a W hs hc hI
    have h0 : Region.ready .any l.toArray listed = [] := by
      apply List.eq_nil_iff_forall_not_mem.2
      intro j hj
      obtain ⟨h1, o, ho, _⟩ := mem_ready.1 hj
      have hjl : j < listed.size := by
        have := (Array.getElem?_eq_some_iff.1 ho).1
        simp at this
        omega
      have : false ∈ listed.toList := by
        have e : listed[j] = false := by simpa [Array.getD, hjl] using h1
        rw [← e]; simp
      have := List.count_pos_iff.2 this
      omega
    refine ⟨h0, ?_⟩
    rw [hall listed hs h0] at hI
    exact hend a W hI
  | succ fuel ih =>
    intro listed a W hs hc hI
    refine ⟨fun h0 => by rw [hall listed hs h0] at hI; exact hend a W hI, fun i hi => ?_⟩
    obtain ⟨h1, o, ho, hdep⟩ := mem_ready.1 hi
    have hlo : l[i]? = some o := by simpa using ho
    have hil : i < l.length := (List.getElem?_eq_some_iff.1 hlo).1
    obtain ⟨⟨d, R⟩, htab⟩ : ∃ p, tab[i]? = some p := ⟨tab[i], List.getElem?_eq_getElem (by omega)⟩
    have hdsz : d < a.tmps.size := by rw [hI.size]; exact hsz d (List.mem_map.2 ⟨(d, R), List.mem_of_getElem? htab, rfl⟩)
    have hst := hstep i o hlo a W hI.ext (fun t ht => by simp only [Array.getD_eq_getD_getElem?, hI.out t ht]) (fun e he hb d' R' ht' =>
      ⟨hI.told e.on d' R' ht' (hdep e (by simpa using he) hb), by rw [hI.size]; exact hsz d' (List.mem_map.2 ⟨(d', R'), List.mem_of_getElem? ht', rfl⟩)⟩) d R htab
    refine wpOp_mono (fun a' W' hh => ?_) hst
    obtain ⟨v, rfl, hR, hx⟩ := hh
    have hil' : i < listed.size := by omega
    refine ih _ _ _ (by simp [hs]) ?_ ⟨hI.ext.trans hx, hI.defers, by simp only [Act.put, Array.size_setIfInBounds]; exact hI.size, ?_, ?_⟩
    · have e : listed.toList[i]? = some false := by
        have : listed[i] = false := by simpa [Array.getD, hil'] using h1
        simp [hil', this]
      have := count_set listed.toList i e
      simp only [Array.toList_setIfInBounds]
      omega
    · intro t ht
      have hne : d ≠ t := fun e => ht (e ▸ List.mem_map.2 ⟨(d, R), List.mem_of_getElem? htab, rfl⟩)
      simp only [Act.put]
      rw [Array.getElem?_setIfInBounds_ne hne]
      exact hI.out t ht
    · intro k d2 R2 ht2 hl2
      simp only [Act.put]
      by_cases hki : k = i
      · subst hki
        obtain ⟨rfl, rfl⟩ : d = d2 ∧ R = R2 := by rw [htab] at ht2; injection ht2 with e; injection e with e1 e2; exact ⟨e1, e2⟩
        simp [hdsz]
        exact hR
      · have hne : d ≠ d2 := tab_ne hnd htab ht2 (fun e => hki e.symm)
        have h3 : listed.getD k false = true := by rw [getD_set_ne false (fun e => hki e.symm)] at hl2; exact hl2
        have := hmono k d2 R2 ht2 _ _ _ (hI.told k d2 R2 ht2 h3) hx
        simp only [Array.getD_eq_getD_getElem?, Array.getElem?_setIfInBounds_ne hne]
        simp only [Array.getD_eq_getD_getElem?] at this
        exact this

/-- the region, by what its slots are told to hold -/
theorem wp_region_soft {P : Program} {l : List Oper} (tab : SoftTab) {Q : Exit → Act → World → Prop} {a : Act} {w : World} {id : Nat} (hm : P.follows .mixedOrders = true)
    (hlen : tab.length = l.length) (hnd : (tab.map (·.1)).Nodup) (hsz : ∀ d ∈ tab.map (·.1), d < a.tmps.size)
    (hback : ∀ (k : Nat) (o : Oper), l[k]? = some o → ∀ e ∈ o.after.toList, e.on < k)
    (hmono : ∀ (k d : Nat) (R : Told), tab[k]? = some (d, R) → ∀ (v : Value) (W W' : World), R v W → Ext W W' → R v W')
    (hstep : ∀ (k : Nat) (o : Oper), l[k]? = some o → SoftStep P l.toArray tab Q a w k o)
    (hend : ∀ a' W, SoftAt tab a a' w W (Array.replicate l.length true) → Q .normal a' W) : (Code.region id l.toArray true).wp P Q a w := by
  refine wp_region_any hm ?_
  have := wpAny_soft (P := P) (Q := Q) hlen hnd hsz hback hmono hstep hend l.length (Array.replicate l.length false) a { w with drawn := w.drawn + 1 } (by simp) (by simp) ⟨(Ext.refl w).drew, rfl, rfl, fun _ _ => rfl, fun k d R h1 h2 => by
    exfalso
    simp [Array.getD_eq_getD_getElem?, Array.getElem?_replicate] at h2
    split at h2 <;> simp at h2⟩
  simpa using this

theorem soft_wanted {ops : Array Oper} {o : Oper} {a : Act} {g dg : Nat} {b : Bool} (hg : o.guard = some (g, b)) (hd : (ops[g]?).bind (·.dst) = some dg) (hv : a.tmps.getD dg undef = .bool b ∧ dg < a.tmps.size) : Region.wanted o (yielded ops a.tmps) = true := by
  have h1 : a.tmps[dg]? = some (.bool b) := by
    have := hv.1
    simp only [Array.getD, hv.2, dif_pos] at this
    rw [Array.getElem?_eq_getElem hv.2]
    exact congrArg some this
  simp [Region.wanted, hg, yielded, hd, h1]

/-- an operation that yields a value -/
theorem soft_val {P : Program} {ops : Array Oper} {tab : SoftTab} {Q : Exit → Act → World → Prop} {a0 : Act} {w : World} {k : Nat} {o : Oper} (d : Nat) (R : Told) (hk : ops[k]? = some o) (hd : o.dst = some d) (htab : tab[k]? = some (d, R))
    (h : ∀ (a : Act) (W : World), Ext w W → (∀ t, t ∉ tab.map (·.1) → a.tmps.getD t undef = a0.tmps.getD t undef) → (∀ e ∈ o.after.toList, Region.binds .any e = true → ∀ (d : Nat) (R : Told), tab[e.on]? = some (d, R) → R (a.tmps.getD d undef) W ∧ d < a.tmps.size) →
      Region.wanted o (yielded ops a.tmps) = true ∧ ∃ v W', (execOp a.eval o).run P W = .ok (.value v) W' ∧ R v W' ∧ Ext W W') : SoftStep P ops tab Q a0 w k o := by
  intro a W hx hout hdep d' R' ht
  rw [htab] at ht
  injection ht with ht
  injection ht with e1 e2
  subst e1
  subst e2
  obtain ⟨hw, v, W', hrun, hR, hE⟩ := h a W hx hout hdep
  unfold wpOp
  simp only [hk]
  rw [if_pos hw]
  refine Or.inl ?_
  unfold Oper.wp
  rw [hrun, Oper.upon_value, hd]
  exact ⟨v, rfl, hR, hE⟩
/-- a call -/
theorem soft_call {P : Program} {ops : Array Oper} {tab : SoftTab} {Q : Exit → Act → World → Prop} {a0 : Act} {w : World} {k : Nat} {o : Oper} (d : Nat) (R : Told) (hk : ops[k]? = some o) (hd : o.dst = some d) (htab : tab[k]? = some (d, R))
    (h : ∀ (a : Act) (W : World), Ext w W → (∀ t, t ∉ tab.map (·.1) → a.tmps.getD t undef = a0.tmps.getD t undef) → (∀ e ∈ o.after.toList, Region.binds .any e = true → ∀ (d : Nat) (R : Told), tab[e.on]? = some (d, R) → R (a.tmps.getD d undef) W ∧ d < a.tmps.size) →
      Region.wanted o (yielded ops a.tmps) = true ∧ ∃ f args, (execOp a.eval o).run P W = .ok (.enter f args) W ∧ Calls P f args W fun e W' => ∃ v, e = .returned v ∧ R v W' ∧ Ext W W') : SoftStep P ops tab Q a0 w k o := by
  intro a W hx hout hdep d' R' ht
  rw [htab] at ht
  injection ht with ht
  injection ht with e1 e2
  subst e1
  subst e2
  obtain ⟨hw, f, args, hrun, hc⟩ := h a W hx hout hdep
  unfold wpOp
  simp only [hk]
  rw [if_pos hw]
  refine Or.inl ?_
  unfold Oper.wp
  rw [hrun, Oper.upon_enter]
  refine hc.mono ?_
  rintro e W' ⟨v, rfl, hR, hE⟩
  rw [hd]
  exact ⟨v, rfl, hR, hE⟩

def softBack (l : List Oper) : Bool := (List.range l.length).all fun k => match l[k]? with
  | some o => o.after.toList.all fun e => decide (e.on < k)
  | none => true
theorem softBack_spec {l : List Oper} (h : softBack l = true) : ∀ (k : Nat) (o : Oper), l[k]? = some o → ∀ e ∈ o.after.toList, e.on < k := by
  intro k o ho e he
  have hk : k < l.length := (List.getElem?_eq_some_iff.1 ho).1
  have := List.all_eq_true.1 h k (List.mem_range.2 hk)
  simp only [ho] at this
  simpa using List.all_eq_true.1 this e he
/-- each operation in its turn -/
def SoftAll (P : Program) (ops : Array Oper) (tab : SoftTab) (Q : Exit → Act → World → Prop) (a0 : Act) (w : World) : List Oper → Nat → Prop
  | [], _ => True
  | o :: r, k => SoftStep P ops tab Q a0 w k o ∧ SoftAll P ops tab Q a0 w r (k + 1)
theorem softAll_spec {P : Program} {ops : Array Oper} {tab : SoftTab} {Q : Exit → Act → World → Prop} {a0 : Act} {w : World} : ∀ (l : List Oper) (k : Nat), SoftAll P ops tab Q a0 w l k → ∀ (j : Nat) (o : Oper), l[j]? = some o → SoftStep P ops tab Q a0 w (k + j) o
  | [], _, _, j, o, h => by simp at h
  | x :: l, k, h, 0, o, ho => by
    obtain rfl : x = o := by simpa using ho
    exact h.1
  | x :: l, k, h, j + 1, o, ho => by
    have := softAll_spec l (k + 1) h.2 j o (by simpa using ho)
    rwa [Nat.add_assoc, Nat.add_comm 1 j] at this
/-- what is told stays told -/
def SoftMono (tab : SoftTab) : Prop := ∀ p ∈ tab, ∀ (v : Value) (W W' : World), p.2 v W → Ext W W' → p.2 v W'
theorem wp_soft {P : Program} {l : List Oper} (tab : SoftTab) {Q : Exit → Act → World → Prop} {a : Act} {w : World} {id : Nat} (hm : P.follows .mixedOrders = true)
    (hlen : tab.length = l.length) (hnd : (tab.map (·.1)).Nodup) (hsz : ∀ d ∈ tab.map (·.1), d < a.tmps.size) (hback : softBack l = true) (hmono : SoftMono tab)
    (hend : ∀ a' W, SoftAt tab a a' w W (Array.replicate l.length true) → Q .normal a' W)
    (hstep : SoftAll P l.toArray tab Q a w l 0) : (Code.region id l.toArray true).wp P Q a w :=
  wp_region_soft tab hm hlen hnd hsz (softBack_spec hback) (fun k d R h v W W' => hmono (d, R) (List.mem_of_getElem? h) v W W') (fun k o h => by have := softAll_spec l 0 hstep k o h; rwa [Nat.zero_add] at this) hend

end Go.Proofs.Ytnocdfmmhnnbeaa
