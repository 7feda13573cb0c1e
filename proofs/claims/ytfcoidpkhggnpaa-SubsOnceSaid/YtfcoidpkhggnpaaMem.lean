/-
  Slices that read as lists of cells: how they are kept, cut and appended; no claim stands here.
-/
import Derived.Test.YtfcoidpkhggnpaaBase
import Derived.Maps.AppendAt
import Derived.Deep.AppendLies
import Derived.OwnWalk
import Derived.Laws.OwnMore
import Derived.Laws.MakeOwn
namespace Go.Proofs.Ytfcoidpkhggnpaa
open Go.ChangeShapes Go.WideShapes Go.ChangeAt Go.RowKit Go.Sort
set_option linter.unusedVariables false

theorem add_at (b o n : Nat) : (⟨b, o, none⟩ : Addr).add n = ⟨b, o + n, none⟩ := by unfold Addr.add; split <;> simp_all

/-- from that address on lie these cells -/
def Row (w : World) (A : Option Addr) (xs : List Value) : Prop :=
  0 < xs.length → ∃ b o, A = some ⟨b, o, none⟩ ∧ ∀ (j : Nat) (u : Value), xs[j]? = some u → w.cell? ⟨b, o + j, none⟩ = some u

theorem Row.nil (w : World) (A : Option Addr) : Row w A [] := fun h => absurd h (by simp)
theorem Row.ext {w w' : World} {A : Option Addr} {xs : List Value} (h : Row w A xs) (hx : Ext w w') : Row w' A xs := fun h0 => by
  obtain ⟨b, o, e, hc⟩ := h h0
  exact ⟨b, o, e, fun j u hu => hx.keep (hc j u hu)⟩
theorem Row.take {w : World} {A : Option Addr} {xs : List Value} (h : Row w A xs) (k : Nat) : Row w A (xs.take k) := fun h0 => by
  obtain ⟨b, o, e, hc⟩ := h (by simp at h0; omega)
  refine ⟨b, o, e, fun j u hu => hc j u ?_⟩
  rw [List.getElem?_take] at hu
  split at hu
  · exact hu
  · cases hu
theorem Row.drop {w : World} {b o : Nat} {xs : List Value} (h : Row w (some ⟨b, o, none⟩) xs) (k : Nat) : Row w (some ⟨b, o + k, none⟩) (xs.drop k) := fun h0 => by
  obtain ⟨b', o', e, hc⟩ := h (by simp at h0; omega)
  injection e with e
  injection e with e1 e2 e3
  subst e1
  subst e2
  refine ⟨_, _, rfl, fun j u hu => ?_⟩
  rw [List.getElem?_drop] at hu
  rw [Nat.add_assoc]
  exact hc _ u hu
theorem Row.own {w : World} {base : Nat} {e : TypeId} {size : Nat} {A : Option Addr} {n c : Nat} {xs : List Value} (h : w.ownsRow base e size (.slice A n c) n xs) : Row w A xs := fun h0 => by
  have hn : 0 < n := by
    rcases Nat.eq_zero_or_pos n with h1 | h1
    · subst h1; have := h.1; omega
    · exact h1
  obtain ⟨g, cap, hv, _, hlt⟩ := h.form hn
  have hA : A = some ⟨g, 0, none⟩ := by injection hv
  subst hA
  refine ⟨g, 0, rfl, fun j u hu => ?_⟩
  rw [← add_at]
  exact h.cells (g := g) rfl j u hu

/-- elements of some cells each, one behind the other -/
def flat {α : Type} (enc : α → List Value) (l : List α) : List Value := l.flatMap enc
theorem flat_nil {α : Type} (enc : α → List Value) : flat enc [] = [] := rfl
theorem flat_cons {α : Type} (enc : α → List Value) (a : α) (l : List α) : flat enc (a :: l) = enc a ++ flat enc l := by simp [flat]
theorem flat_append {α : Type} (enc : α → List Value) (l m : List α) : flat enc (l ++ m) = flat enc l ++ flat enc m := by simp [flat]
theorem flat_one {α : Type} (enc : α → List Value) (a : α) : flat enc [a] = enc a := by simp [flat]
section
variable {α : Type} {enc : α → List Value} {s : Nat}
theorem flat_len (hs : ∀ a, (enc a).length = s) : ∀ l : List α, (flat enc l).length = l.length * s
  | [] => by simp [flat]
  | a :: l => by rw [flat_cons, List.length_append, hs, flat_len hs l, List.length_cons, Nat.succ_mul, Nat.add_comm]
theorem flat_at (hs : ∀ a, (enc a).length = s) : ∀ {l : List α} {k : Nat} {a : α} {j : Nat}, l[k]? = some a → j < s → (flat enc l)[k * s + j]? = (enc a)[j]?
  | [], k, a, j, h, _ => by simp at h
  | x :: l, 0, a, j, h, hj => by
    have e : x = a := by simpa using h
    subst e
    rw [flat_cons, Nat.zero_mul, Nat.zero_add, List.getElem?_append_left (by rw [hs]; exact hj)]
  | x :: l, k + 1, a, j, h, hj => by
    rw [flat_cons, List.getElem?_append_right (by rw [hs, Nat.succ_mul]; omega), hs, show (k + 1) * s + j - s = k * s + j by rw [Nat.succ_mul]; omega]
    exact flat_at hs (by simpa using h) hj
theorem flat_take (hs : ∀ a, (enc a).length = s) : ∀ (l : List α) (k : Nat), flat enc (l.take k) = (flat enc l).take (k * s)
  | [], k => by simp [flat]
  | x :: l, 0 => by simp [flat]
  | x :: l, k + 1 => by
    rw [List.take_succ_cons, flat_cons, flat_cons, flat_take hs l k, List.take_append, hs, show (k + 1) * s - s = k * s by rw [Nat.succ_mul]; omega, List.take_of_length_le (l := enc x) (by rw [hs, Nat.succ_mul]; omega)]
theorem flat_drop (hs : ∀ a, (enc a).length = s) : ∀ (l : List α) (k : Nat), flat enc (l.drop k) = (flat enc l).drop (k * s)
  | [], k => by simp [flat]
  | x :: l, 0 => by simp [flat]
  | x :: l, k + 1 => by
    rw [List.drop_succ_cons, flat_cons, flat_drop hs l k, List.drop_append, hs, show (k + 1) * s - s = k * s by rw [Nat.succ_mul]; omega, show (enc x).drop ((k + 1) * s) = [] from List.drop_eq_nil_of_le (by rw [hs, Nat.succ_mul]; omega), List.nil_append]
theorem flat_one_cell (h1 : ∀ a, ∀ u ∈ enc a, u.oneCell' = true) (l : List α) : ∀ u ∈ flat enc l, u.oneCell' = true := fun u hu => by
  obtain ⟨a, _, h⟩ := List.mem_flatMap.1 hu
  exact h1 a u h
/-- the cell of an element's field -/
theorem Row.at {w : World} {A : Option Addr} {l : List α} (h : Row w A (flat enc l)) (hs : ∀ a, (enc a).length = s) {k : Nat} {a : α} (hk : l[k]? = some a) (h0 : 0 < s) :
    ∃ b o, A = some ⟨b, o, none⟩ ∧ ∀ j u, (enc a)[j]? = some u → w.cell? ⟨b, o + (k * s + j), none⟩ = some u := by
  have hkl : k < l.length := by
    rcases Nat.lt_or_ge k l.length with g | g
    · exact g
    · rw [List.getElem?_eq_none g] at hk; cases hk
  obtain ⟨b, o, e, hc⟩ := h (by rw [flat_len hs]; exact Nat.mul_pos (by omega) h0)
  refine ⟨b, o, e, fun j u hu => hc _ u ?_⟩
  have hj : j < s := by
    rcases Nat.lt_or_ge j s with g | g
    · exact g
    · rw [List.getElem?_eq_none (by rw [hs]; exact g)] at hu; cases hu
  rw [flat_at hs hk hj]; exact hu
end

/-- nothing has turned but one block of the call's own and new ones -/
theorem Ext.grown {a w w' : World} {v : Value} (h : Ext a w) (hg : w.grownBy w' v.ownBlock) (hv : ∀ k, v.ownBlock = some k → a.heap.size ≤ k) : Ext a w' := RowKit.Below.grown h hg h.size hv

theorem run_append_row {P : Program} (w : World) (base : Nat) (t ty e : TypeId) (i : TypeInfo) (z : Value) (size bytes : Nat) (ht : P.underlying t = some (.slice e)) (hi : P.info? e = some i) (hz : i.zero = some z)
    (hsize : i.size = size) (hby : i.bytes = bytes) (hzs : z.cells.size = size) (hsz : 0 < size)
    (v : Value) (n : Nat) (xs : List Value) (hown : w.ownsRow base e size v n xs)
    (A : Option Addr) (m c : Nat) (news : List Value) (hl : news.length = m * size) (hr : Row w A news) (h1 : ∀ u ∈ news, u.oneCell' = true)
    (h63 : n + m ≤ maxLen) (hbytes : (n + m) * bytes ≤ 140737488355328) (hbase : base ≤ w.heap.size) :
    ∃ v' w', (Builtin.append_ #[t, t] ty #[v, .slice A m c]).run P w = .ok v' w' ∧ w'.ownsRow base e size v' (n + m) (xs ++ news) ∧ w.grownBy w' v.ownBlock := by
  cases A with
  | none =>
    have h0 : news = [] := by
      cases news with
      | nil => rfl
      | cons u us => obtain ⟨b, o, e, _⟩ := hr (by simp); cases e
    subst h0
    have hm : m = 0 := by
      have := hl
      simp only [List.length_nil] at this
      rcases Nat.mul_eq_zero.1 this.symm with h | h
      · exact h
      · omega
    subst hm
    refine ⟨v, w, ?_, by simpa using hown, ⟨rfl, rfl, rfl, Nat.le_refl _, fun _ _ _ => rfl⟩⟩
    rcases hown.2 with ⟨rfl, rfl⟩ | ⟨g, cap, cur, rfl, _, _, hnc, _⟩
    · simp [Builtin.append_, run_underlying ht, sizeOf, typeInfo, hi, Builtin.lenOf, Builtin.firstCells]
    · simp [Builtin.append_, run_underlying ht, sizeOf, typeInfo, hi, Builtin.lenOf, Builtin.firstCells, hnc, storeCells]
  | some ad =>
    obtain ⟨v', w', hrun, h2, h3, _, _⟩ := run_append_own_at (P := P) w base t ty e i z size bytes ht hi hz hsize hby hzs hsz v n xs hown ad m c news hl (fun j u hu => by
      obtain ⟨b, o, e, hc⟩ := hr (by cases news <;> simp at hu ⊢)
      injection e with e
      subst e
      rw [add_at]
      exact hc j u hu) h1 h63 hbytes hbase
    exact ⟨v', w', hrun, h2, h3⟩

theorem wp_append_row {P : Program} (w : World) {o : Oper} {a : Act} {K : Act → World → Prop} {Q : Exit → Act → World → Prop} (s x : Operand) (t : TypeId)
    (ho : o.op = .call { callee := .builtin .append, args := #[s, x], argTypes := #[t, t] })
    (base : Nat) (e : TypeId) (i : TypeInfo) (z : Value) (size bytes : Nat) (ht : P.underlying t = some (.slice e)) (hi : P.info? e = some i) (hz : i.zero = some z)
    (hsize : i.size = size) (hby : i.bytes = bytes) (hzs : z.cells.size = size) (hsz : 0 < size)
    (v : Value) (n : Nat) (xs : List Value) (hs : a.eval s = v) (hown : w.ownsRow base e size v n xs)
    (A : Option Addr) (m c : Nat) (news : List Value) (hx : a.eval x = .slice A m c) (hl : news.length = m * size) (hr : Row w A news) (h1 : ∀ u ∈ news, u.oneCell' = true)
    (h63 : n + m ≤ maxLen) (hbytes : (n + m) * bytes ≤ 140737488355328) (hbase : base ≤ w.heap.size)
    (h : ∀ v' w', w'.ownsRow base e size v' (n + m) (xs ++ news) → w.grownBy w' v.ownBlock → K (a.put o.dst v') w') : o.wp P a w K Q := by
  obtain ⟨v', w', hrun, h2, h3⟩ := run_append_row (P := P) w base t o.type e i z size bytes ht hi hz hsize hby hzs hsz v n xs hown A m c news hl hr h1 h63 hbytes hbase
  unfold Oper.wp execOp
  simp only [ho, resolve, invoke, builtin, Sem.run_bind, Sem.run_pure, Result.andThen_ok, List.map_toArray, List.map_cons, List.map_nil, hs, hx, hrun]
  exact h v' w' h2 h3

theorem wpList_append_row {P : Program} (w : World) {ops : Array Oper} {rest : List Oper} {o : Oper} {a : Act} {Q : Exit → Act → World → Prop} (hgd : o.guard = none) (s x : Operand) (t : TypeId)
    (ho : o.op = .call { callee := .builtin .append, args := #[s, x], argTypes := #[t, t] })
    (base : Nat) (e : TypeId) (i : TypeInfo) (z : Value) (size bytes : Nat) (ht : P.underlying t = some (.slice e)) (hi : P.info? e = some i) (hz : i.zero = some z)
    (hsize : i.size = size) (hby : i.bytes = bytes) (hzs : z.cells.size = size) (hsz : 0 < size)
    (v : Value) (n : Nat) (xs : List Value) (hs : a.eval s = v) (hown : w.ownsRow base e size v n xs)
    (A : Option Addr) (m c : Nat) (news : List Value) (hx : a.eval x = .slice A m c) (hl : news.length = m * size) (hr : Row w A news) (h1 : ∀ u ∈ news, u.oneCell' = true)
    (h63 : n + m ≤ maxLen) (hbytes : (n + m) * bytes ≤ 140737488355328) (hbase : base ≤ w.heap.size)
    (h : ∀ v' w', w'.ownsRow base e size v' (n + m) (xs ++ news) → w.grownBy w' v.ownBlock → wpList P ops Q rest (a.put o.dst v') w') : wpList P ops Q (o :: rest) a w :=
  wpList_plain hgd fun _ hK => wp_append_row w s x t ho base e i z size bytes ht hi hz hsize hby hzs hsz v n xs hs hown A m c news hx hl hr h1 h63 hbytes hbase fun v' w' h2 h3 => hK _ _ (h v' w' h2 h3)

/-- the address of what is cut off at the front -/
def cutA (A : Option Addr) (cap k s : Nat) : Option Addr := if cap = k then A else A.map (·.add (k * s))
theorem Row.cut {w : World} {A : Option Addr} {xs : List Value} (h : Row w A xs) {n cap k s : Nat} (hl : xs.length = n * s) (hc : n ≤ cap) (hk : k ≤ n) : Row w (cutA A cap k s) (xs.drop (k * s)) := fun h0 => by
  have h1 : k * s < n * s := by rw [List.length_drop, hl] at h0; omega
  have hkn : k < n := Nat.lt_of_mul_lt_mul_right h1
  obtain ⟨b, o, rfl, hcell⟩ := h (by omega)
  unfold cutA
  rw [if_neg (by omega), Option.map_some, add_at]
  exact Row.drop h (k * s) h0
theorem Row.new (w : World) (cs : Array Value) (t : TypeId) : Row (w.alloc (.cells cs t)) (some ⟨w.heap.size, 0, none⟩) cs.toList := fun _ =>
  ⟨_, _, rfl, fun j u hu => by rw [← add_at]; exact World.news_of_block (heap_alloc_new w _) j u hu⟩
/-- s[k:] -/
theorem run_from {P : Program} {t e : TypeId} {i : TypeInfo} (ht : P.underlying t = some (.slice e)) (hi : P.info? e = some i) (A : Option Addr) (n cap : Nat) (k : Int) (W : World) (h0 : 0 ≤ k) (h1 : k ≤ n) :
    (Instr.slice t (.slice A n cap) (some (.int .i64 k)) none none).run P W = .ok (.slice (cutA A cap k.toNat i.size) (n - k.toNat) (cap - k.toNat)) W := by
  simp [Instr.slice, run_underlying ht, Instr.sliceBounds, run_sliceBound, sizeOf, typeInfo, hi, cutA, h0, h1]
/-- s[:k] -/
theorem run_upto {P : Program} {t e : TypeId} {i : TypeInfo} (ht : P.underlying t = some (.slice e)) (hi : P.info? e = some i) (A : Option Addr) (n cap : Nat) (k : Int) (W : World) (h0 : 0 ≤ k) (h1 : k ≤ cap) :
    (Instr.slice t (.slice A n cap) none (some (.int .i64 k)) none).run P W = .ok (.slice A k.toNat cap) W := by
  have e0 : A.map (·.add 0) = A := by cases A <;> simp [Addr.add]
  simp [Instr.slice, run_underlying ht, Instr.sliceBounds, run_sliceBound, sizeOf, typeInfo, hi, h0, h1, e0]
/-- make of no elements, with room -/
def roomC (z : Value) (n : Nat) : Array Value := madeCells z.cells n
theorem run_room {P : Program} {t e : TypeId} {i : TypeInfo} {z : Value} {s bytes : Nat} (ht : P.underlying t = some (.slice e)) (hi : P.info? e = some i) (hz : i.zero = some z) (hs : i.size = s) (hby : i.bytes = bytes) (c : Int) (W : World) (h0 : 0 ≤ c) (h1 : (bytes : Int) * c ≤ 281474976710656) (h2 : c ≤ 9223372036854775807) :
    (Instr.makeSlice t (.int .i64 0) (.int .i64 c)).run P W = .ok (.slice (some ⟨W.heap.size, 0, none⟩) 0 c.toNat) (W.alloc (.cells (roomC z (c.toNat * s)) e)) := by
  subst hs
  subst hby
  exact run_make W t e i z ht hi hz .i64 .i64 0 c (Int.le_refl _) h0 h1 h2
theorem roomC_size (z : Value) (n : Nat) : (roomC z n).size = n := size_madeCells _ _

/-- a row from a block on, with its room -/
def FarA (s : Nat) (A : Option Addr) : Prop := ∀ a, A = some a → s ≤ a.block
theorem row_far {W : World} {base : Nat} {e : TypeId} {size : Nat} {v : Value} {n : Nat} {xs : List Value} (h : W.ownsRow base e size v n xs) {A : Option Addr} {m c : Nat} (hv : v = .slice A m c) : n ≤ c ∧ FarA base A := by
  subst hv
  rcases h.2 with ⟨h1, h0⟩ | ⟨g, cap, cur, h1, hb, _, h2, _⟩
  · injection h1 with e1 e2 e3
    subst e1
    exact ⟨by omega, fun a ha => by cases ha⟩
  · injection h1 with e1 e2 e3
    subst e1
    exact ⟨by omega, fun a ha => by cases ha; exact hb⟩

end Go.Proofs.Ytfcoidpkhggnpaa
