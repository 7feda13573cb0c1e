/-
  Slices of bytes: read, cut, made, appended, turned into texts; no claim stands here.
-/
import Derived.Test.YtfcoidpkhggnpaaMem
import Derived.Test.YtfcoidpkhggnpaaWMath
import Derived.Laws.IdiomStrings
import Derived.Lib.AppendStr
import Derived.Lib.BufferRead
namespace Go.Proofs.Ytfcoidpkhggnpaa
open Go.ChangeShapes Go.WideShapes Go.ChangeAt Go.RowKit Go.Sort
set_option linter.unusedVariables false

/-- a row of the call's own, of whatever elements -/
def OwnG (t : TypeId) (s : Nat) (w W : World) (v : Value) (n : Nat) (xs : List Value) : Prop := W.ownsRow w.heap.size t s v n xs
section
variable {t : TypeId} {s : Nat} {w W W' : World} {v : Value} {n : Nat} {xs : List Value}
theorem OwnG.nil (t : TypeId) (s : Nat) (w W : World) : OwnG t s w W (.slice none 0 0) 0 [] := World.ownsRow_nil W _ _ _
theorem OwnG.ext (h : OwnG t s w W v n xs) (hx : Ext W W') : OwnG t s w W' v n xs := by
  unfold OwnG at h ⊢
  rcases h with ⟨h1, h2 | ⟨g, cap, cur, h2, h3, h4, h5⟩⟩
  · exact ⟨h1, .inl h2⟩
  · refine ⟨h1, .inr ⟨g, cap, cur, h2, h3, ?_, h5⟩⟩
    have hg : g < W.heap.size := by
      rcases Nat.lt_or_ge g W.heap.size with k | k
      · exact k
      · rw [Array.getElem?_eq_none k] at h4; cases h4
    rw [RowKit.Below.block hx g hg]; exact h4
theorem OwnG.down {w0 : World} (h : OwnG t s w W v n xs) (hx : Ext w0 w) : OwnG t s w0 W v n xs := by
  unfold OwnG at h ⊢
  rcases h with ⟨h1, h2 | ⟨g, cap, cur, h2, h3, h4⟩⟩
  · exact ⟨h1, .inl h2⟩
  · exact ⟨h1, .inr ⟨g, cap, cur, h2, Nat.le_trans hx.size h3, h4⟩⟩
theorem OwnG.form (h : OwnG t s w W v n xs) : ∃ A c, v = .slice A n c ∧ n ≤ c := by
  rcases h.2 with ⟨rfl, h0⟩ | ⟨g, cap, cur, rfl, _, _, h2, _⟩
  · exact ⟨none, 0, by rw [h0], by omega⟩
  · exact ⟨_, _, rfl, h2⟩
theorem OwnG.lt (h : OwnG t s w W v n xs) : ∀ k, v.ownBlock = some k → w.heap.size ≤ k := fun k hk => (World.ownsRow.lt h k hk).1
theorem OwnG.row {A : Option Addr} {c : Nat} (h : OwnG t s w W (.slice A n c) n xs) : Row W A xs := Row.own h
end

/-- a byte's cell -/
abbrev Vb (x : UInt8) : Value := .int .u8 (x.toNat : Int)
/-- a slice's address, from which bytes lie -/
def Bys (w : World) (A : Option Addr) (l : List UInt8) : Prop := Row w A (l.map Vb)
theorem Bys.ext {w w' : World} {A : Option Addr} {l : List UInt8} (h : Bys w A l) (hx : Ext w w') : Bys w' A l := Row.ext h hx
theorem Bys.nil (w : World) (A : Option Addr) : Bys w A [] := Row.nil w A
theorem Bys.at {w : World} {A : Option Addr} {l : List UInt8} (h : Bys w A l) {k : Nat} (hk : k < l.length) : ∃ b o, A = some ⟨b, o, none⟩ ∧ w.cell? ⟨b, o + k, none⟩ = some (Vb (l.getD k 0)) := by
  obtain ⟨b, o, e, hc⟩ := h (by rw [List.length_map]; omega)
  refine ⟨b, o, e, hc k _ ?_⟩
  simp [List.getD, hk]
theorem Bys.all {w : World} {b o : Nat} {l : List UInt8} (h : Bys w (some ⟨b, o, none⟩) l) (k : Nat) (hk : k < l.length) : w.cell? ⟨b, o + k, none⟩ = some (Vb (l.getD k 0)) := by
  obtain ⟨b', o', e, hc⟩ := h.at hk
  injection e with e
  injection e with e1 e2 e3
  subst e1
  subst e2
  exact hc
theorem Bys.place {w : World} {A : Option Addr} {l : List UInt8} (h : Bys w A l) (hk : 0 < l.length) : ∃ b o, A = some ⟨b, o, none⟩ := by
  obtain ⟨b, o, e, _⟩ := h.at hk
  exact ⟨b, o, e⟩
theorem Bys.take {w : World} {A : Option Addr} {l : List UInt8} (h : Bys w A l) (k : Nat) : Bys w A (l.take k) := by
  unfold Bys; rw [List.map_take]; exact Row.take h _
theorem Bys.cut {w : World} {A : Option Addr} {l : List UInt8} (h : Bys w A l) {n cap k : Nat} (hn : l.length = n) (hc : n ≤ cap) (hk : k ≤ n) : Bys w (cutA A cap k 1) (l.drop k) := by
  have := Row.cut (s := 1) h (n := n) (cap := cap) (k := k) (by rw [List.length_map, hn, Nat.mul_one]) hc hk
  unfold Bys; rw [List.map_drop]; rw [Nat.mul_one] at this; exact this
theorem map_Vb_one (l : List UInt8) : ∀ u ∈ l.map Vb, u.oneCell' = true := by intro u hu; obtain ⟨b, _, rfl⟩ := List.mem_map.1 hu; rfl

theorem infoB : (Try.prog.info? 5).map (fun i => (i.zero, i.size, i.bytes)) = some (some (.int .u8 0), 1, 1) := by kernel_rfl
theorem fromB (A : Option Addr) (n cap k : Nat) (h1 : k ≤ n) (z : Int) (hz : z = k) (W : World) : (Instr.slice 52 (.slice A n cap) (some (.int .i64 z)) none none).run Try.prog W = .ok (.slice (cutA A cap k 1) (n - k) (cap - k)) W := by
  subst hz
  obtain ⟨i, hi, hz0, hz1, hz2⟩ := info_parts infoB
  have := run_from Try.underlying52 hi A n cap k W (by omega) (by omega)
  rw [hz1] at this
  exact this
theorem uptoB (A : Option Addr) (n cap k : Nat) (h1 : k ≤ cap) (z : Int) (hz : z = k) (W : World) : (Instr.slice 52 (.slice A n cap) none (some (.int .i64 z)) none).run Try.prog W = .ok (.slice A k cap) W := by
  subst hz
  obtain ⟨i, hi, hz0, hz1, hz2⟩ := info_parts infoB
  exact run_upto Try.underlying52 hi A n cap k W (by omega) (by omega)
theorem uptoU (A : Option Addr) (n cap k : Nat) (h1 : k ≤ cap) (z : Int) (hz : z = k) (W : World) : (Instr.slice 52 (.slice A n cap) none (some (.int .u32 z)) none).run Try.prog W = .ok (.slice A k cap) W := by
  subst hz
  obtain ⟨i, hi, hz0, hz1, hz2⟩ := info_parts infoB
  have e0 : A.map (·.add 0) = A := by cases A <;> simp [Addr.add]
  have hb : ∀ c, (Instr.sliceBound (.int .u32 (k : Int)) cap c).run Try.prog W = .ok k W := fun c => by
    have h2 : (0 : Int) ≤ k ∧ (k : Int) ≤ cap := by omega
    simp [Instr.sliceBound, asIntOf, h2]
  simp [Instr.slice, run_underlying Try.underlying52, Instr.sliceBounds, hb, sizeOf, typeInfo, hi, e0]
/-- s[j:k] -/
theorem midB (A : Option Addr) (n cap j k : Nat) (h0 : j ≤ k) (h1 : k ≤ cap) (x z : Int) (hx : x = j) (hz : z = k) (W : World) : (Instr.slice 52 (.slice A n cap) (some (.int .i64 x)) (some (.int .i64 z)) none).run Try.prog W = .ok (.slice (cutA A cap j 1) (k - j) (cap - j)) W := by
  subst hx
  subst hz
  obtain ⟨i, hi, hz0, hz1, hz2⟩ := info_parts infoB
  simp [Instr.slice, run_underlying Try.underlying52, Instr.sliceBounds, run_sliceBound, sizeOf, typeInfo, hi, cutA, hz1, h0, h1]
/-- s[:n:n] -/
theorem clipB (A : Option Addr) (n cap : Nat) (h1 : n ≤ cap) (z : Int) (hz : z = n) (W : World) : (Instr.slice 52 (.slice A n cap) none (some (.int .i64 z)) (some (.int .i64 z))).run Try.prog W = .ok (.slice A n n) W := by
  subst hz
  obtain ⟨i, hi, hz0, hz1, hz2⟩ := info_parts infoB
  have e0 : A.map (·.add 0) = A := by cases A <;> simp [Addr.add]
  simp [Instr.slice, run_underlying Try.underlying52, Instr.sliceBounds, run_sliceBound, sizeOf, typeInfo, hi, e0, h1]

/-- string(b) -/
theorem textB {w : World} {A : Option Addr} {n c : Nat} {l : List UInt8} (h : Bys w A l) (hn : l.length = n) : (convert 52 9 (.slice A n c)).run Try.prog w = .ok (.string ⟨l.toArray⟩) w := by
  subst hn
  rcases Nat.eq_zero_or_pos l.length with h0 | h0
  · obtain rfl : l = [] := List.eq_nil_of_length_eq_zero h0
    cases A with
    | none => exact Lib.run_convert_nil_bytes w _ _ _ c Try.underlying52 Try.underlying5 Try.underlying9
    | some a => exact run_convert_bytes_back w _ _ _ a c [] Try.underlying52 Try.underlying5 Try.underlying9 (fun j hj => absurd hj (by simp))
  · obtain ⟨b, o, rfl⟩ := h.place h0
    refine run_convert_bytes_back w _ _ _ ⟨b, o, none⟩ c l Try.underlying52 Try.underlying5 Try.underlying9 (fun j hj => ?_)
    rw [add_at, h.all j hj]
    simp [List.getD, hj]

/-- bytes of the call's own -/
def OwnB (w W : World) (v : Value) (l : List UInt8) : Prop := OwnG 5 1 w W v l.length (l.map Vb)
theorem OwnB.nil (w W : World) : OwnB w W (.slice none 0 0) [] := OwnG.nil _ _ _ _
theorem OwnB.ext {w W W' : World} {v : Value} {l : List UInt8} (h : OwnB w W v l) (hx : Ext W W') : OwnB w W' v l := OwnG.ext h hx
theorem OwnB.down {w0 w W : World} {v : Value} {l : List UInt8} (h : OwnB w W v l) (hx : Ext w0 w) : OwnB w0 W v l := OwnG.down h hx
theorem OwnB.open {w W : World} {v : Value} {l : List UInt8} (h : OwnB w W v l) : ∃ A c, v = .slice A l.length c ∧ l.length ≤ c ∧ Bys W A l := by
  obtain ⟨A, c, rfl, hc⟩ := OwnG.form h
  exact ⟨A, c, rfl, hc, OwnG.row h⟩
theorem OwnB.lt {w W : World} {v : Value} {l : List UInt8} (h : OwnB w W v l) : ∀ k, v.ownBlock = some k → w.heap.size ≤ k := OwnG.lt h
def roomB (c : Nat) : Array Value := roomC (.int .u8 0) (c * 1)
theorem roomB_run (c : Nat) (h1 : c ≤ 1200000) (k : Int) (hk : k = c) (W : World) :
    (Instr.makeSlice 52 (.int .i64 0) (.int .i64 k)).run Try.prog W = .ok (.slice (some ⟨W.heap.size, 0, none⟩) 0 c) (W.alloc (.cells (roomB c) 5)) := by
  subst hk
  obtain ⟨i, hi, hz0, hz1, hz2⟩ := info_parts infoB
  have := run_room Try.underlying52 hi hz0 hz1 hz2 (c : Int) W (by omega) (by omega) (by omega)
  rwa [Int.toNat_natCast] at this
theorem OwnB.room {w0 W : World} (hx : Ext w0 W) (c : Nat) (h1 : c ≤ 1200000) : OwnB w0 (W.alloc (.cells (roomB c) 5)) (.slice (some ⟨W.heap.size, 0, none⟩) 0 c) [] :=
  World.ownsRow_made W _ _ hx.size (by unfold maxLen; omega) (roomC_size _ _)
/-- []byte{..}: a row of the call's own -/
theorem OwnB.new {w0 W : World} (hx : Ext w0 W) (l : List UInt8) (hl : l.length ≤ 1200000) (cs : Array Value) (hc : cs = (l.map Vb).toArray) : OwnB w0 (W.alloc (.cells cs 5)) (.slice (some ⟨W.heap.size, 0, none⟩) l.length l.length) l := by
  subst hc
  refine ⟨by simp, .inr ⟨W.heap.size, l.length, _, rfl, hx.size, heap_alloc_new W _, Nat.le_refl _, by unfold maxLen; omega, by simp, by simpa using List.take_of_length_le (by simp)⟩⟩
theorem Bys.new (w : World) (l : List UInt8) (cs : Array Value) (hc : cs = (l.map Vb).toArray) : Bys (w.alloc (.cells cs 5)) (some ⟨w.heap.size, 0, none⟩) l := by
  subst hc
  have := Row.new w (l.map Vb).toArray 5
  exact this

theorem Bys.new2 (w : World) (o : Obj) (l : List UInt8) (cs : Array Value) (hc : cs = (l.map Vb).toArray) : Bys ((w.alloc o).alloc (.cells cs 5)) (some ⟨w.heap.size + 1, 0, none⟩) l := by
  have := Bys.new (w.alloc o) l cs hc
  rw [show (w.alloc o).heap.size = w.heap.size + 1 by simp] at this
  exact this

/-- bytes of the call's own are told, and nothing that was there has turned -/
def RetB (w : World) (l : List UInt8) (e : Ending) (w' : World) : Prop := ∃ v, e = .returned v ∧ OwnB w w' v l ∧ Ext w w'

/-- bytes are appended to a row of the call's own -/
theorem wpList_append_B {w0 w : World} {ops : Array Oper} {rest : List Oper} {o : Oper} {a : Act} {Q : Exit → Act → World → Prop} (hgd : o.guard = none) (s x : Operand)
    (ho : o.op = .call { callee := .builtin .append, args := #[s, x], argTypes := #[52, 52] })
    (v : Value) (l : List UInt8) (hs : a.eval s = v) (hown : OwnB w0 w v l) (hx : Ext w0 w)
    (A : Option Addr) (m c : Nat) (r : List UInt8) (he : a.eval x = .slice A m c) (hm : r.length = m) (hr : Bys w A r) (hb : l.length + r.length ≤ 12000000)
    (h : ∀ v' w', OwnB w0 w' v' (l ++ r) → Ext w0 w' → w.grownBy w' v.ownBlock → wpList Try.prog ops Q rest (a.put o.dst v') w') : wpList Try.prog ops Q (o :: rest) a w := by
  obtain ⟨i, hi, hz0, hz1, hz2⟩ := info_parts infoB
  subst hm
  refine wpList_append_row w hgd s x _ ho w0.heap.size 5 i _ 1 1 Try.underlying52 hi hz0 hz1 hz2 rfl (by omega) v l.length _ hs hown A r.length c _ he (by simp) hr (map_Vb_one r)
    (by unfold maxLen; omega) (by omega) hx.size ?_
  intro v' w' h1 h2
  refine h v' w' ?_ (hx.grown h2 hown.lt) h2
  unfold OwnB OwnG
  rw [List.map_append, List.length_append]
  exact h1
/-- a text's bytes are appended to a row of the call's own -/
theorem wpList_append_T {w0 w : World} {ops : Array Oper} {rest : List Oper} {o : Oper} {a : Act} {Q : Exit → Act → World → Prop} (hgd : o.guard = none) (s x : Operand)
    (ho : o.op = .call { callee := .builtin .append, args := #[s, x], argTypes := #[52, 9] })
    (v : Value) (l : List UInt8) (hs : a.eval s = v) (hown : OwnB w0 w v l) (hx : Ext w0 w)
    (r : ByteArray) (he : a.eval x = .string r) (hb : l.length + r.size ≤ 12000000)
    (h : ∀ v' w', OwnB w0 w' v' (l ++ r.data.toList) → Ext w0 w' → w.grownBy w' v.ownBlock → wpList Try.prog ops Q rest (a.put o.dst v') w') : wpList Try.prog ops Q (o :: rest) a w := by
  obtain ⟨i, hi, hz0, hz1, hz2⟩ := info_parts infoB
  refine Lib.wpList_append_own_string w hgd s x _ _ ho w0.heap.size 5 i Try.underlying52 Try.underlying9 hi hz0 hz1 hz2 v l.length _ hs hown r he (by unfold maxLen; omega) (by omega) hx.size ?_
  intro v' w' h1 h2 _
  refine h v' w' ?_ (hx.grown h2 hown.lt) h2
  unfold OwnB OwnG
  rw [List.map_append, List.length_append, Array.length_toList]
  exact h1

end Go.Proofs.Ytfcoidpkhggnpaa
