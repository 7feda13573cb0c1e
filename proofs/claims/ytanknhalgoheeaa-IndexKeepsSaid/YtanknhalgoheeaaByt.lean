/-
  Slices of bytes: read, cut, made, appended, turned into texts; no claim stands here.
-/
import Derived.Test.YtanknhalgoheeaaMem
import Derived.Test.YtanknhalgoheeaaWMath
import Derived.Laws.IdiomStrings
import Derived.Lib.AppendStr
import Derived.Lib.BufferRead
namespace Go.Proofs.Ytanknhalgoheeaa
open Go.ChangeShapes Go.WideShapes Go.ChangeAt Go.RowKit Go.Sort
set_option linter.unusedVariables false

/-- a row of the call's own, of whatever elements -/
def OwnG (t : TypeId) (s : Nat) (w W : World) (v : Value) (n : Nat) (xs : List Value) : Prop := W.ownsRow w.heap.size t s v n xs
section
variable {t : TypeId} {s : Nat} {w W W' : World} {v : Value} {n : Nat} {xs : List Value}
theorem OwnG.nil (t : TypeId) (s : Nat) (w W : World) : OwnG t s w W (.slice none 0 0) 0 [] := World.ownsRow_nil W _ _ _
theorem OwnG.ext (h : OwnG t s w W v n xs) (hx : Ext W W') : OwnG t s w W' v n xs := by
  unfold OwnG at h ⊢
  rcases h with ⟨h1, h2 | ⟨g, cap, cur, h2, h3, h4, h5⟩⟩
  · exact ⟨h1, .inl h2⟩
  · refine ⟨h1, .inr ⟨g, cap, cur, h2, h3, ?_, h5⟩⟩
    have hg : g < W.heap.size := by
      rcases Nat.lt_or_ge g W.heap.size with k | k
      · exact k
      · rw [Array.getElem?_eq_none k] at h4; cases h4
    rw [RowKit.Below.block hx g hg]; exact h4
theorem OwnG.down {w0 : World} (h : OwnG t s w W v n xs) (hx : Ext w0 w) : OwnG t s w0 W v n xs := by
  unfold OwnG at h ⊢
  rcases h with ⟨h1, h2 | ⟨g, cap, cur, h2, h3, h4⟩⟩
  · exact ⟨h1, .inl h2⟩
  · exact ⟨h1, .inr ⟨g, cap, cur, h2, Nat.le_trans hx.size h3, h4⟩⟩
theorem OwnG.form (h : OwnG t s w W v n xs) : ∃ A c, v = .slice A n c ∧ n ≤ c := by
  rcases h.2 with ⟨rfl, h0⟩ | ⟨g, cap, cur, rfl, _, _, h2, _⟩
  · exact ⟨none, 0, by rw [h0], by omega⟩
  · exact ⟨_, _, rfl, h2⟩
theorem OwnG.lt (h : OwnG t s w W v n xs) : ∀ k, v.ownBlock = some k → w.heap.size ≤ k := fun k hk => (World.ownsRow.lt h k hk).1
theorem OwnG.row {A : Option Addr} {c : Nat} (h : OwnG t s w W (.slice A n c) n xs) : Row W A xs := Row.own h
end

/-- a byte's cell -/
abbrev Vb (x : UInt8) : Value := .int .u8 (x.toNat : Int)
/-- a slice's address, from which bytes lie -/
def Bys (w : World) (A : Option Addr) (l : List UInt8) : Prop := Row w A (l.map Vb)
theorem Bys.ext {w w' : World} {A : Option Addr} {l : List UInt8} (h : Bys w A l) (hx : Ext w w') : Bys w' A l := Row.ext h hx
theorem Bys.nil (w : World) (A : Option Addr) : Bys w A [] := Row.nil w A
theorem Bys.at {w : World} {A : Option Addr} {l : List UInt8} (h : Bys w A l) {k : Nat} (hk : k < l.length) : ∃ b o, A = some ⟨b, o, none⟩ ∧ w.cell? ⟨b, o + k, none⟩ = some (Vb (l.getD k 0)) := by
  obtain ⟨b, o, e, hc⟩ := h (by rw [List.length_map]; omega)
  refine ⟨b, o, e, hc k _ ?_⟩
  simp [List.getD, hk]
theorem Bys.all {w : World} {b o : Nat} {l : List UInt8} (h : Bys w (some ⟨b, o, none⟩) l) (k : Nat) (hk : k < l.length) : w.cell? ⟨b, o + k, none⟩ = some (Vb (l.getD k 0)) := by
  obtain ⟨b', o', e, hc⟩ := h.at hk
  injection e with e
  injection e with e1 e2 e3
  subst e1
  subst e2
  exact hc
theorem Bys.place {w : World} {A : Option Addr} {l : List UInt8} (h : Bys w A l) (hk : 0 < l.length) : ∃ b o, A = some ⟨b, o, none⟩ := by
  obtain ⟨b, o, e, _⟩ := h.at hk
  exact ⟨b, o, e⟩
theorem Bys.take {w : World} {A : Option Addr} {l : List UInt8} (h : Bys w A l) (k : Nat) : Bys w A (l.take k) := by
  unfold Bys; rw [List.map_take]; exact Row.take h _
theorem Bys.cut {w : World} {A : Option Addr} {l : List UInt8} (h : Bys w A l) {n cap k : Nat} (hn : l.length = n) (hc : n ≤ cap) (hk : k ≤ n) : Bys w (cutA A cap k 1) (l.drop k) := by
  have := Row.cut (s := 1) h (n := n) (cap := cap) (k := k) (by rw [List.length_map, hn, Nat.mul_one]) hc hk
  unfold Bys; rw [List.map_drop]; rw [Nat.mul_one] at this; exact this
theorem map_Vb_one (l : List UInt8) : ∀ u ∈ l.map Vb, u.oneCell' = true := by intro u hu; obtain ⟨b, _, rfl⟩ := List.mem_map.1 hu; rfl

theorem infoB : (Try.prog.info? 5).map (fun i => (i.zero, i.size, i.bytes)) = some (some (.int .u8 0), 1, 1) := by kernel_rfl
/-- bytes of the call's own -/
def OwnB (w W : World) (v : Value) (l : List UInt8) : Prop := OwnG 5 1 w W v l.length (l.map Vb)
theorem OwnB.nil (w W : World) : OwnB w W (.slice none 0 0) [] := OwnG.nil _ _ _ _
theorem OwnB.ext {w W W' : World} {v : Value} {l : List UInt8} (h : OwnB w W v l) (hx : Ext W W') : OwnB w W' v l := OwnG.ext h hx
theorem OwnB.down {w0 w W : World} {v : Value} {l : List UInt8} (h : OwnB w W v l) (hx : Ext w0 w) : OwnB w0 W v l := OwnG.down h hx
theorem OwnB.open {w W : World} {v : Value} {l : List UInt8} (h : OwnB w W v l) : ∃ A c, v = .slice A l.length c ∧ l.length ≤ c ∧ Bys W A l := by
  obtain ⟨A, c, rfl, hc⟩ := OwnG.form h
  exact ⟨A, c, rfl, hc, OwnG.row h⟩
theorem OwnB.lt {w W : World} {v : Value} {l : List UInt8} (h : OwnB w W v l) : ∀ k, v.ownBlock = some k → w.heap.size ≤ k := OwnG.lt h
def roomB (c : Nat) : Array Value := roomC (.int .u8 0) (c * 1)
theorem OwnB.room {w0 W : World} (hx : Ext w0 W) (c : Nat) (h1 : c ≤ 3000) : OwnB w0 (W.alloc (.cells (roomB c) 5)) (.slice (some ⟨W.heap.size, 0, none⟩) 0 c) [] :=
  World.ownsRow_made W _ _ hx.size (by unfold maxLen; omega) (roomC_size _ _)
/-- []byte{..}: a row of the call's own -/
theorem OwnB.new {w0 W : World} (hx : Ext w0 W) (l : List UInt8) (hl : l.length ≤ 3000) (cs : Array Value) (hc : cs = (l.map Vb).toArray) : OwnB w0 (W.alloc (.cells cs 5)) (.slice (some ⟨W.heap.size, 0, none⟩) l.length l.length) l := by
  subst hc
  refine ⟨by simp, .inr ⟨W.heap.size, l.length, _, rfl, hx.size, heap_alloc_new W _, Nat.le_refl _, by unfold maxLen; omega, by simp, by simpa using List.take_of_length_le (by simp)⟩⟩
theorem Bys.new (w : World) (l : List UInt8) (cs : Array Value) (hc : cs = (l.map Vb).toArray) : Bys (w.alloc (.cells cs 5)) (some ⟨w.heap.size, 0, none⟩) l := by
  subst hc
  have := Row.new w (l.map Vb).toArray 5
  exact this

theorem Bys.new2 (w : World) (o : Obj) (l : List UInt8) (cs : Array Value) (hc : cs = (l.map Vb).toArray) : Bys ((w.alloc o).alloc (.cells cs 5)) (some ⟨w.heap.size + 1, 0, none⟩) l := by
  have := Bys.new (w.alloc o) l cs hc
  rw [show (w.alloc o).heap.size = w.heap.size + 1 by simp] at this
  exact this

/-- bytes of the call's own are told, and nothing that was there has turned -/
def RetB (w : World) (l : List UInt8) (e : Ending) (w' : World) : Prop := ∃ v, e = .returned v ∧ OwnB w w' v l ∧ Ext w w'

end Go.Proofs.Ytanknhalgoheeaa
