/-
  Slices of spans: made, cut, appended, stored into; no claim stands here.
-/
import Derived.Test.YtiacfkipkbjmjaaRng
namespace Go.Proofs.Ytiacfkipkbjmjaa
open Go.ChangeShapes Go.WideShapes Go.ChangeAt Go.RowKit Go.Sort
set_option linter.unusedVariables false

theorem infoS : (Try.prog.info? 36).map (fun i => (i.zero, i.size, i.bytes)) = some (some (.agg #[.int .u32 0, .int .u32 0, .int .u32 0]), 3, 12) := by kernel_rfl
theorem fromS (A : Option Addr) (n cap : Nat) (k : Int) (W : World) (h0 : 0 ≤ k) (h1 : k ≤ n) :
    (Instr.slice 22 (.slice A n cap) (some (.int .i64 k)) none none).run Try.prog W = .ok (.slice (cutA A cap k.toNat 3) (n - k.toNat) (cap - k.toNat)) W := by
  obtain ⟨i, hi, hz0, hz1, hz2⟩ := info_parts infoS
  have := run_from Try.underlying22 hi A n cap k W h0 h1
  rw [hz1] at this
  exact this
theorem fromSN (A : Option Addr) (n cap k : Nat) (h1 : k ≤ n) (z : Int) (hz : z = k) (W : World) : (Instr.slice 22 (.slice A n cap) (some (.int .i64 z)) none none).run Try.prog W = .ok (.slice (cutA A cap k 3) (n - k) (cap - k)) W := by
  subst hz; exact fromS A n cap k W (by omega) (by omega)
def roomS (c : Nat) : Array Value := roomC (.agg #[.int .u32 0, .int .u32 0, .int .u32 0]) (c * 3)
theorem roomS_run (c : Nat) (h1 : c ≤ 3000) (k : Int) (hk : k = c) (W : World) :
    (Instr.makeSlice 22 (.int .i64 0) (.int .i64 k)).run Try.prog W = .ok (.slice (some ⟨W.heap.size, 0, none⟩) 0 c) (W.alloc (.cells (roomS c) 36)) := by
  subst hk
  obtain ⟨i, hi, hz0, hz1, hz2⟩ := info_parts infoS
  have := run_room Try.underlying22 hi hz0 hz1 hz2 (c : Int) W (by omega) (by omega) (by omega)
  rwa [Int.toNat_natCast] at this

/-- a row of the call's own -/
def OwnS (w W : World) (v : Value) (l : List (Int × Int × Int)) : Prop := W.ownsRow w.heap.size 36 3 v l.length (flat encS l)
theorem OwnS.nil (w W : World) : OwnS w W (.slice none 0 0) [] := World.ownsRow_nil W _ _ _
theorem OwnS.room {w0 W : World} (hx : Ext w0 W) (c : Nat) (h1 : c ≤ 3000) : OwnS w0 (W.alloc (.cells (roomS c) 36)) (.slice (some ⟨W.heap.size, 0, none⟩) 0 c) [] :=
  World.ownsRow_made W _ _ hx.size (by unfold maxLen; omega) (roomC_size _ _)
theorem OwnS.alloc {w W : World} {v : Value} {l : List (Int × Int × Int)} (h : OwnS w W v l) (o : Obj) : OwnS w (W.alloc o) v l := World.ownsRow.alloc h o
theorem OwnS.ext {w W W' : World} {v : Value} {l : List (Int × Int × Int)} (h : OwnS w W v l) (hx : Ext W W') : OwnS w W' v l := by
  unfold OwnS at h ⊢
  rcases h with ⟨h1, h2 | ⟨g, cap, cur, h2, h3, h4, h5⟩⟩
  · exact ⟨h1, .inl h2⟩
  · refine ⟨h1, .inr ⟨g, cap, cur, h2, h3, ?_, h5⟩⟩
    have hg : g < W.heap.size := by
      rcases Nat.lt_or_ge g W.heap.size with k | k
      · exact k
      · rw [Array.getElem?_eq_none k] at h4; cases h4
    rw [RowKit.Below.block hx g hg]; exact h4
theorem OwnS.form {w W : World} {v : Value} {l : List (Int × Int × Int)} (h : OwnS w W v l) : ∃ A c, v = .slice A l.length c := by
  rcases h.2 with ⟨rfl, h0⟩ | ⟨g, cap, cur, rfl, _⟩
  · exact ⟨none, 0, by rw [h0]⟩
  · exact ⟨_, _, rfl⟩
theorem OwnS.lt {w W : World} {v : Value} {l : List (Int × Int × Int)} (h : OwnS w W v l) : ∀ k, v.ownBlock = some k → w.heap.size ≤ k := fun k hk => (World.ownsRow.lt h k hk).1
theorem SpS.own {w W : World} {v : Value} {l : List (Int × Int × Int)} (h : OwnS w W v l) : ∃ A c, v = .slice A l.length c ∧ SpS W A l := by
  obtain ⟨A, c, rfl⟩ := h.form
  exact ⟨A, c, rfl, Row.own h⟩
/-- a row of the call's own that has elements: its block -/
theorem OwnS.block {w W : World} {v : Value} {l : List (Int × Int × Int)} (h : OwnS w W v l) (h0 : 0 < l.length) : ∃ g c, v = .slice (some ⟨g, 0, none⟩) l.length c ∧ w.heap.size ≤ g ∧ g < W.heap.size := by
  obtain ⟨g, cap, hv, _, hlt⟩ := World.ownsRow.form h h0
  subst hv
  have := World.ownsRow.lt h g rfl
  exact ⟨g, cap, rfl, this.1, this.2⟩

/-- a slice of spans is told, and nothing that was there has turned -/
def RetS (w : World) (l : List (Int × Int × Int)) (e : Ending) (w' : World) : Prop := ∃ A n c, e = .returned (.slice A n c) ∧ l.length = n ∧ n ≤ c ∧ SpS w' A l ∧ Ext w w'
theorem OwnS.cap {w W : World} {A : Option Addr} {n c : Nat} {l : List (Int × Int × Int)} (h : OwnS w W (.slice A n c) l) : n ≤ c := by
  rcases h.2 with ⟨h1, h0⟩ | ⟨g, cap, cur, h1, _, _, h2, _⟩
  · injection h1 with _ e1 e2; omega
  · injection h1 with _ e1 e2; omega

/-- spans are appended to a row of the call's own -/
theorem wpList_append_S {w0 w : World} {ops : Array Oper} {rest : List Oper} {o : Oper} {a : Act} {Q : Exit → Act → World → Prop} (hgd : o.guard = none) (s x : Operand)
    (ho : o.op = .call { callee := .builtin .append, args := #[s, x], argTypes := #[22, 22] })
    (v : Value) (l : List (Int × Int × Int)) (hs : a.eval s = v) (hown : OwnS w0 w v l) (hx : Ext w0 w)
    (A : Option Addr) (m c : Nat) (r : List (Int × Int × Int)) (he : a.eval x = .slice A m c) (hm : r.length = m) (hr : SpS w A r) (hb : l.length + r.length ≤ 3000)
    (h : ∀ v' w', OwnS w0 w' v' (l ++ r) → Ext w0 w' → w.grownBy w' v.ownBlock → wpList Try.prog ops Q rest (a.put o.dst v') w') : wpList Try.prog ops Q (o :: rest) a w := by
  obtain ⟨i, hi, hz0, hz1, hz2⟩ := info_parts infoS
  subst hm
  refine wpList_append_row w hgd s x _ ho w0.heap.size 36 i _ 3 12 Try.underlying22 hi hz0 hz1 hz2 rfl (by omega) v l.length _ hs hown A r.length c _ he (flat_len encS_len r) hr (flat_one_cell encS_one r)
    (by unfold maxLen; omega) (by omega) hx.size ?_
  intro v' w' h1 h2
  refine h v' w' ?_ (hx.grown h2 hown.lt) h2
  unfold OwnS
  rw [flat_append, List.length_append]
  exact h1

theorem SpS.cut {w : World} {A : Option Addr} {l : List (Int × Int × Int)} (h : SpS w A l) {n cap k : Nat} (hn : l.length = n) (hc : n ≤ cap) (hk : k ≤ n) : SpS w (cutA A cap k 3) (l.drop k) := by
  unfold SpS; rw [flat_drop encS_len]; exact Row.cut h (n := n) (by rw [flat_len encS_len, hn]) hc hk
theorem SpS.new (w : World) (x y z : Int) : SpS (w.alloc (.cells #[.int .u32 x, .int .u32 y, .int .u32 z] 36)) (some ⟨w.heap.size, 0, none⟩) [(x, y, z)] := Row.new w #[.int .u32 x, .int .u32 y, .int .u32 z] 36

theorem flat_set_last (l : List (Int × Int × Int)) (x y z u : Int) : (flat encS (l ++ [(x, y, z)])).set (l.length * 3 + 2) (Vu u) = flat encS (l ++ [(x, y, u)]) := by
  rw [flat_append, flat_append, List.set_append_right _ _ (by rw [flat_len encS_len]; omega), flat_len encS_len, show l.length * 3 + 2 - l.length * 3 = 2 by omega]
  rfl
/-- the last span's To is stored into -/
theorem OwnS.last {w W : World} {g c : Nat} {l : List (Int × Int × Int)} {x y z : Int} (h : OwnS w W (.slice (some ⟨g, 0, none⟩) (l ++ [(x, y, z)]).length c) (l ++ [(x, y, z)])) (u : Int) :
    OwnS w (W.setCell ⟨g, l.length * 3 + 2, none⟩ (Vu u)) (.slice (some ⟨g, 0, none⟩) (l ++ [(x, y, z)]).length c) (l ++ [(x, y, u)]) := by
  have := (World.ownsRow.stored h (l.length * 3 + 2) (Vu u)).1
  rw [flat_set_last] at this
  unfold OwnS
  rw [show (l ++ [(x, y, u)]).length = (l ++ [(x, y, z)]).length by simp]
  exact this

end Go.Proofs.Ytiacfkipkbjmjaa
