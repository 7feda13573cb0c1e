/-
  Messages in memory: rows, boxes; no claim stands here.
-/
import Derived.Test.YtfcoidpkhggnpaaNMem
import Derived.Test.YtfcoidpkhggnpaaVsT
namespace Go.Proofs.Ytfcoidpkhggnpaa
open Go.ChangeShapes Go.WideShapes Go.ChangeAt Go.RowKit Go.Sort
set_option linter.unusedVariables false

/-- a message -/
structure Ms where
  v : Int
  w : Bool
  t : List UInt8
  a : Int
  d : Int
  i : List UInt8
/-- texts that make bears -/
def SmM (x : Ms) : Prop := x.t.length ≤ 281474976710656 ∧ x.i.length ≤ 281474976710656
/-- the cells of an item -/
def encM (x : Ms) : List Value := [Vi x.v, .bool x.w, Vs x.t, Vi x.a, Vi x.d, Vs x.i]
abbrev msv (x : Ms) : Value := .agg #[Vi x.v, .bool x.w, Vs x.t, Vi x.a, Vi x.d, Vs x.i]
theorem encM_len (p : Ms) : (encM p).length = 6 := rfl
theorem encM_one (p : Ms) : ∀ u ∈ encM p, u.oneCell' = true := by intro u hu; simp [encM] at hu; rcases hu with rfl | rfl | rfl | rfl | rfl | rfl <;> rfl
theorem infoM : (Try.prog.info? 38).map (fun i => (i.zero, i.size, i.bytes)) = some (some (.agg #[Vi 0, .bool false, .string ⟨#[]⟩, Vi 0, Vi 0, .string ⟨#[]⟩]), 6, 64) := by kernel_rfl
/-- from that address on lie these -/
def MsS (w : World) (A : Option Addr) (l : List Ms) : Prop := Row w A (flat encM l)
theorem MsS.ext {w w' : World} {A : Option Addr} {l : List Ms} (h : MsS w A l) (hx : Ext w w') : MsS w' A l := Row.ext h hx
theorem MsS.nil (w : World) (A : Option Addr) : MsS w A [] := Row.nil w A
/-- the cells of one, from an address on -/
structure MsC (w : World) (b o : Nat) (x : Ms) : Prop where
  c0 : w.cell? ⟨b, o, none⟩ = some (Vi x.v)
  c1 : w.cell? ⟨b, o + 1, none⟩ = some (.bool x.w)
  c2 : w.cell? ⟨b, o + 2, none⟩ = some (Vs x.t)
  c3 : w.cell? ⟨b, o + 3, none⟩ = some (Vi x.a)
  c4 : w.cell? ⟨b, o + 4, none⟩ = some (Vi x.d)
  c5 : w.cell? ⟨b, o + 5, none⟩ = some (Vs x.i)
theorem MsC.ext {w w' : World} {b o : Nat} {x : Ms} (h : MsC w b o x) (hx : Ext w w') : MsC w' b o x := ⟨hx.keep h.c0, hx.keep h.c1, hx.keep h.c2, hx.keep h.c3, hx.keep h.c4, hx.keep h.c5⟩
theorem MsS.at {w : World} {A : Option Addr} {l : List Ms} (h : MsS w A l) {k : Nat} (hk : k < l.length) : ∃ b o x, A = some ⟨b, o, none⟩ ∧ l[k]? = some x ∧ MsC w b (o + k * 6) x := by
  obtain ⟨x, hp⟩ : ∃ p, l[k]? = some p := ⟨l[k], List.getElem?_eq_getElem hk⟩
  obtain ⟨b, o, e, hc⟩ := Row.at h encM_len hp (by omega)
  exact ⟨b, o, x, e, hp, hc 0 _ rfl, hc 1 _ rfl, hc 2 _ rfl, hc 3 _ rfl, hc 4 _ rfl, hc 5 _ rfl⟩
theorem MsS.take {w : World} {A : Option Addr} {l : List Ms} (h : MsS w A l) (k : Nat) : MsS w A (l.take k) := by
  unfold MsS; rw [flat_take encM_len]; exact Row.take h _
theorem MsS.cut {w : World} {A : Option Addr} {l : List Ms} (h : MsS w A l) {n cap k : Nat} (hn : l.length = n) (hc : n ≤ cap) (hk : k ≤ n) : MsS w (cutA A cap k 6) (l.drop k) := by
  unfold MsS; rw [flat_drop encM_len]; exact Row.cut h (n := n) (by rw [flat_len encM_len, hn]) hc hk
theorem MsS.new (w : World) (x : Ms) : MsS (w.alloc (.cells #[Vi x.v, .bool x.w, Vs x.t, Vi x.a, Vi x.d, Vs x.i] 38)) (some ⟨w.heap.size, 0, none⟩) [x] := Row.new w #[Vi x.v, .bool x.w, Vs x.t, Vi x.a, Vi x.d, Vs x.i] 38
theorem MsS.new2 (w : World) (o : Obj) (x : Ms) : MsS ((w.alloc o).alloc (.cells #[Vi x.v, .bool x.w, Vs x.t, Vi x.a, Vi x.d, Vs x.i] 38)) (some ⟨w.heap.size + 1, 0, none⟩) [x] := by
  have h := MsS.new (w.alloc o) x
  rwa [show (w.alloc o).heap.size = w.heap.size + 1 by simp] at h
theorem fromM (A : Option Addr) (n cap k : Nat) (h1 : k ≤ n) (z : Int) (hz : z = k) (W : World) : (Instr.slice 31 (.slice A n cap) (some (.int .i64 z)) none none).run Try.prog W = .ok (.slice (cutA A cap k 6) (n - k) (cap - k)) W := by
  subst hz
  obtain ⟨i, hi, hz0, hz1, hz2⟩ := info_parts infoM
  have := run_from Try.underlying31 hi A n cap k W (by omega) (by omega)
  rw [hz1] at this
  exact this
theorem uptoM (A : Option Addr) (n cap k : Nat) (h1 : k ≤ cap) (z : Int) (hz : z = k) (W : World) : (Instr.slice 31 (.slice A n cap) none (some (.int .i64 z)) none).run Try.prog W = .ok (.slice A k cap) W := by
  subst hz
  obtain ⟨i, hi, hz0, hz1, hz2⟩ := info_parts infoM
  exact run_upto Try.underlying31 hi A n cap k W (by omega) (by omega)
/-- a row of the call's own -/
def OwnM (w W : World) (v : Value) (l : List Ms) : Prop := OwnG 38 6 w W v l.length (flat encM l)
theorem OwnM.nil (w W : World) : OwnM w W (.slice none 0 0) [] := OwnG.nil _ _ _ _
theorem OwnM.ext {w W W' : World} {v : Value} {l : List Ms} (h : OwnM w W v l) (hx : Ext W W') : OwnM w W' v l := OwnG.ext h hx
theorem OwnM.down {w0 w W : World} {v : Value} {l : List Ms} (h : OwnM w W v l) (hx : Ext w0 w) : OwnM w0 W v l := OwnG.down h hx
theorem OwnM.lt {w W : World} {v : Value} {l : List Ms} (h : OwnM w W v l) : ∀ k, v.ownBlock = some k → w.heap.size ≤ k ∧ k < W.heap.size := World.ownsRow.lt h
theorem OwnM.open {w W : World} {v : Value} {l : List Ms} (h : OwnM w W v l) : ∃ A c, v = .slice A l.length c ∧ l.length ≤ c ∧ MsS W A l := by
  obtain ⟨A, c, rfl, hc⟩ := OwnG.form h
  exact ⟨A, c, rfl, hc, OwnG.row h⟩
theorem OwnM.kept {w W W' : World} {v : Value} {l : List Ms} {row : Option Nat} (h : OwnM w W v l) (hg : W.grownBy W' row) (hn : v.ownBlock = none ∨ v.ownBlock ≠ row) : OwnM w W' v l := World.ownsRow.kept h hg hn
/-- these are told, in memory of the call's own -/
def RetM (w : World) (l : List Ms) (e : Ending) (w' : World) : Prop := ∃ v, e = .returned v ∧ OwnM w w' v l ∧ Ext w w'
theorem RetM.down {w0 w w' : World} {l : List Ms} {e : Ending} (h : RetM w l e w') (hx : Ext w0 w) : RetM w0 l e w' := by
  obtain ⟨v, h1, h2, h3⟩ := h
  exact ⟨v, h1, h2.down hx, hx.trans h3⟩

theorem wpList_append_M {w0 w : World} {ops : Array Oper} {rest : List Oper} {o : Oper} {a : Act} {Q : Exit → Act → World → Prop} (hgd : o.guard = none) (s x : Operand)
    (ho : o.op = .call { callee := .builtin .append, args := #[s, x], argTypes := #[31, 31] })
    (v : Value) (l : List Ms) (hs : a.eval s = v) (hown : OwnM w0 w v l) (hx : Ext w0 w)
    (A : Option Addr) (m c : Nat) (r : List Ms) (he : a.eval x = .slice A m c) (hm : r.length = m) (hr : MsS w A r) (hb : l.length + r.length ≤ 100000)
    (h : ∀ v' w', OwnM w0 w' v' (l ++ r) → Ext w0 w' → w.grownBy w' v.ownBlock → (v'.ownBlock = v.ownBlock ∨ v'.ownBlock = some w.heap.size) → wpList Try.prog ops Q rest (a.put o.dst v') w') : wpList Try.prog ops Q (o :: rest) a w := by
  refine wpList_plain hgd fun K hK => ?_
  obtain ⟨i, hi, hz0, hz1, hz2⟩ := info_parts infoM
  subst hm
  obtain ⟨v', w', hrun, h2, h3, h4⟩ := run_append_rowB (P := Try.prog) w w0.heap.size 31 o.type 38 i _ 6 64 Try.underlying31 hi hz0 hz1 hz2 rfl (by omega) v l.length _ hown A r.length c _ (flat_len encM_len r) hr (flat_one_cell encM_one r)
    (by unfold maxLen; omega) (by omega) hx.size
  unfold Oper.wp execOp
  simp only [ho, resolve, invoke, builtin, Sem.run_bind, Sem.run_pure, Result.andThen_ok, List.map_toArray, List.map_cons, List.map_nil, hs, he, hrun]
  refine hK _ _ (h v' w' ?_ (hx.grown h3 (OwnG.lt hown)) h3 h4)
  unfold OwnM OwnG
  rw [flat_append, List.length_append]
  exact h2

/-- a block that holds one item -/
def BoxM (W : World) (g : Nat) (x : Ms) : Prop := W.heap[g]? = some (.cells #[Vi x.v, .bool x.w, Vs x.t, Vi x.a, Vi x.d, Vs x.i] 38 (0, 0))
theorem BoxM.grown {W W' : World} {g : Nat} {x : Ms} {row : Option Nat} (h : BoxM W g x) (hg : W.grownBy W' row) (hn : some g ≠ row) : BoxM W' g x := by
  unfold BoxM at h ⊢
  rw [hg.block g (Array.getElem?_eq_some_iff.1 h).1 hn]; exact h
theorem BoxM.ext {W W' : World} {g : Nat} {x : Ms} (h : BoxM W g x) (hx : Ext W W') : BoxM W' g x := by
  unfold BoxM at h ⊢
  rw [RowKit.Below.block hx g (Array.getElem?_eq_some_iff.1 h).1]; exact h
theorem BoxM.cells {W : World} {g : Nat} {x : Ms} (h : BoxM W g x) : MsC W g 0 x :=
  ⟨by rw [cell_of_row W g 0 _ _ _ h]; rfl, by rw [cell_of_row W g (0 + 1) _ _ _ h]; rfl, by rw [cell_of_row W g (0 + 2) _ _ _ h]; rfl, by rw [cell_of_row W g (0 + 3) _ _ _ h]; rfl, by rw [cell_of_row W g (0 + 4) _ _ _ h]; rfl, by rw [cell_of_row W g (0 + 5) _ _ _ h]; rfl⟩
theorem BoxM.lt {W : World} {g : Nat} {x : Ms} (h : BoxM W g x) : g < W.heap.size := (Array.getElem?_eq_some_iff.1 h).1

end Go.Proofs.Ytfcoidpkhggnpaa
