/-
  Slices of entries: read, appended; no claim stands here.
-/
import Derived.Test.YtanknhalgoheeaaXMath
import Derived.Test.YtanknhalgoheeaaNMem
import Derived.Test.YtanknhalgoheeaaOpnS
namespace Go.Proofs.Ytanknhalgoheeaa
open Go.ChangeShapes Go.WideShapes Go.ChangeAt Go.RowKit Go.Sort
set_option linter.unusedVariables false
attribute [local go_sem] World.cell?_alloc_some

def encE (x : En) : List Value := [Vu x.c, Vu x.k, .int .i32 x.ch, .bool x.g]
abbrev env (x : En) : Value := .agg #[.int .u32 x.c, .int .u32 x.k, .int .i32 x.ch, .bool x.g]
theorem encE_len (p : En) : (encE p).length = 4 := rfl
theorem encE_one (p : En) : ∀ u ∈ encE p, u.oneCell' = true := by intro u hu; simp [encE] at hu; rcases hu with rfl | rfl | rfl | rfl <;> rfl
theorem infoE : (Try.prog.info? 38).map (fun i => (i.zero, i.size, i.bytes)) = some (some (.agg #[.int .u32 0, .int .u32 0, .int .i32 0, .bool false]), 4, 16) := by kernel_rfl
/-- from that address on lie these -/
def EnS (w : World) (A : Option Addr) (l : List En) : Prop := Row w A (flat encE l)
theorem EnS.ext {w w' : World} {A : Option Addr} {l : List En} (h : EnS w A l) (hx : Ext w w') : EnS w' A l := Row.ext h hx
theorem EnS.nil (w : World) (A : Option Addr) : EnS w A [] := Row.nil w A
structure EnC (w : World) (b o : Nat) (x : En) : Prop where
  c0 : w.cell? ⟨b, o, none⟩ = some (Vu x.c)
  c1 : w.cell? ⟨b, o + 1, none⟩ = some (Vu x.k)
  c2 : w.cell? ⟨b, o + 2, none⟩ = some (.int .i32 x.ch)
  c3 : w.cell? ⟨b, o + 3, none⟩ = some (.bool x.g)
theorem EnC.ext {w w' : World} {b o : Nat} {x : En} (h : EnC w b o x) (hx : Ext w w') : EnC w' b o x := ⟨hx.keep h.c0, hx.keep h.c1, hx.keep h.c2, hx.keep h.c3⟩
theorem EnS.at {w : World} {A : Option Addr} {l : List En} (h : EnS w A l) {k : Nat} (hk : k < l.length) : ∃ b o x, A = some ⟨b, o, none⟩ ∧ l[k]? = some x ∧ EnC w b (o + k * 4) x := by
  obtain ⟨x, hp⟩ : ∃ p, l[k]? = some p := ⟨l[k], List.getElem?_eq_getElem hk⟩
  obtain ⟨b, o, e, hc⟩ := Row.at h encE_len hp (by omega)
  exact ⟨b, o, x, e, hp, hc 0 _ rfl, hc 1 _ rfl, hc 2 _ rfl, hc 3 _ rfl⟩
theorem EnS.take {w : World} {A : Option Addr} {l : List En} (h : EnS w A l) (k : Nat) : EnS w A (l.take k) := by
  unfold EnS; rw [flat_take encE_len]; exact Row.take h _
theorem EnS.cut {w : World} {A : Option Addr} {l : List En} (h : EnS w A l) {n cap k : Nat} (hn : l.length = n) (hc : n ≤ cap) (hk : k ≤ n) : EnS w (cutA A cap k 4) (l.drop k) := by
  unfold EnS; rw [flat_drop encE_len]; exact Row.cut h (n := n) (by rw [flat_len encE_len, hn]) hc hk
theorem EnS.new (w : World) (x : En) : EnS (w.alloc (.cells #[.int .u32 x.c, .int .u32 x.k, .int .i32 x.ch, .bool x.g] 38)) (some ⟨w.heap.size, 0, none⟩) [x] := Row.new w #[.int .u32 x.c, .int .u32 x.k, .int .i32 x.ch, .bool x.g] 38
theorem EnS.new2 (w : World) (o : Obj) (x : En) : EnS ((w.alloc o).alloc (.cells #[.int .u32 x.c, .int .u32 x.k, .int .i32 x.ch, .bool x.g] 38)) (some ⟨w.heap.size + 1, 0, none⟩) [x] := by
  have h := EnS.new (w.alloc o) x
  rwa [show (w.alloc o).heap.size = w.heap.size + 1 by simp] at h
theorem fromE (A : Option Addr) (n cap k : Nat) (h1 : k ≤ n) (z : Int) (hz : z = k) (W : World) : (Instr.slice 22 (.slice A n cap) (some (.int .i64 z)) none none).run Try.prog W = .ok (.slice (cutA A cap k 4) (n - k) (cap - k)) W := by
  subst hz
  obtain ⟨i, hi, hz0, hz1, hz2⟩ := info_parts infoE
  have := run_from Try.underlying22 hi A n cap k W (by omega) (by omega)
  rw [hz1] at this
  exact this
theorem uptoE (A : Option Addr) (n cap k : Nat) (h1 : k ≤ cap) (z : Int) (hz : z = k) (W : World) : (Instr.slice 22 (.slice A n cap) none (some (.int .i64 z)) none).run Try.prog W = .ok (.slice A k cap) W := by
  subst hz
  obtain ⟨i, hi, hz0, hz1, hz2⟩ := info_parts infoE
  exact run_upto Try.underlying22 hi A n cap k W (by omega) (by omega)
/-- a row of the call's own -/
def OwnE (w W : World) (v : Value) (l : List En) : Prop := OwnG 38 4 w W v l.length (flat encE l)
theorem OwnE.nil (w W : World) : OwnE w W (.slice none 0 0) [] := OwnG.nil _ _ _ _
theorem OwnE.ext {w W W' : World} {v : Value} {l : List En} (h : OwnE w W v l) (hx : Ext W W') : OwnE w W' v l := OwnG.ext h hx
theorem OwnE.down {w0 w W : World} {v : Value} {l : List En} (h : OwnE w W v l) (hx : Ext w0 w) : OwnE w0 W v l := OwnG.down h hx
theorem OwnE.lt {w W : World} {v : Value} {l : List En} (h : OwnE w W v l) : ∀ k, v.ownBlock = some k → w.heap.size ≤ k ∧ k < W.heap.size := World.ownsRow.lt h
theorem OwnE.open {w W : World} {v : Value} {l : List En} (h : OwnE w W v l) : ∃ A c, v = .slice A l.length c ∧ l.length ≤ c ∧ EnS W A l := by
  obtain ⟨A, c, rfl, hc⟩ := OwnG.form h
  exact ⟨A, c, rfl, hc, OwnG.row h⟩
theorem OwnE.kept {w W W' : World} {v : Value} {l : List En} {row : Option Nat} (h : OwnE w W v l) (hg : W.grownBy W' row) (hn : v.ownBlock = none ∨ v.ownBlock ≠ row) : OwnE w W' v l := World.ownsRow.kept h hg hn
/-- []api.Entry{}: a row of the call's own, of none -/
theorem OwnE.empty {w0 W : World} (hx : Ext w0 W) : OwnE w0 (W.alloc (.cells #[] 38)) (.slice (some ⟨W.heap.size, 0, none⟩) 0 0) [] :=
  ⟨by simp [flat], .inr ⟨W.heap.size, 0, #[], rfl, hx.size, heap_alloc_new W _, Nat.le_refl _, by unfold maxLen; omega, by simp, by simp [flat]⟩⟩
def RetE (w : World) (l : List En) (e : Ending) (w' : World) : Prop := ∃ v, e = .returned v ∧ OwnE w w' v l ∧ Ext w w'
theorem wpList_append_E {w0 w : World} {ops : Array Oper} {rest : List Oper} {o : Oper} {a : Act} {Q : Exit → Act → World → Prop} (hgd : o.guard = none) (s x : Operand)
    (ho : o.op = .call { callee := .builtin .append, args := #[s, x], argTypes := #[22, 22] })
    (v : Value) (l : List En) (hs : a.eval s = v) (hown : OwnE w0 w v l) (hx : Ext w0 w)
    (A : Option Addr) (m c : Nat) (r : List En) (he : a.eval x = .slice A m c) (hm : r.length = m) (hr : EnS w A r) (hb : l.length + r.length ≤ 100000)
    (h : ∀ v' w', OwnE w0 w' v' (l ++ r) → Ext w0 w' → w.grownBy w' v.ownBlock → (v'.ownBlock = v.ownBlock ∨ v'.ownBlock = some w.heap.size) → wpList Try.prog ops Q rest (a.put o.dst v') w') : wpList Try.prog ops Q (o :: rest) a w := by
  refine wpList_plain hgd fun K hK => ?_
  obtain ⟨i, hi, hz0, hz1, hz2⟩ := info_parts infoE
  subst hm
  obtain ⟨v', w', hrun, h2, h3, h4⟩ := run_append_rowB (P := Try.prog) w w0.heap.size 22 o.type 38 i _ 4 16 Try.underlying22 hi hz0 hz1 hz2 rfl (by omega) v l.length _ hown A r.length c _ (flat_len encE_len r) hr (flat_one_cell encE_one r)
    (by unfold maxLen; omega) (by omega) hx.size
  unfold Oper.wp execOp
  simp only [ho, resolve, invoke, builtin, Sem.run_bind, Sem.run_pure, Result.andThen_ok, List.map_toArray, List.map_cons, List.map_nil, hs, he, hrun]
  refine hK _ _ (h v' w' ?_ (hx.grown h3 (OwnG.lt hown)) h3 h4)
  unfold OwnE OwnG
  rw [flat_append, List.length_append]
  exact h2

/-- ints of the call's own -/
abbrev Vz (n : Nat) : Value := .int .i64 (n : Int)
theorem infoZ : (Try.prog.info? 3).map (fun i => (i.zero, i.size, i.bytes)) = some (some (.int .i64 0), 1, 8) := by kernel_rfl
theorem map_Vz_one (l : List Nat) : ∀ u ∈ l.map Vz, u.oneCell' = true := by intro u hu; obtain ⟨b, _, rfl⟩ := List.mem_map.1 hu; rfl
def OwnZ (w W : World) (v : Value) (l : List Nat) : Prop := OwnG 3 1 w W v l.length (l.map Vz)
theorem OwnZ.nil (w W : World) : OwnZ w W (.slice none 0 0) [] := OwnG.nil _ _ _ _
theorem OwnZ.ext {w W W' : World} {v : Value} {l : List Nat} (h : OwnZ w W v l) (hx : Ext W W') : OwnZ w W' v l := OwnG.ext h hx
theorem OwnZ.open {w W : World} {v : Value} {l : List Nat} (h : OwnZ w W v l) : ∃ A c, v = .slice A l.length c ∧ l.length ≤ c ∧ Row W A (l.map Vz) := by
  obtain ⟨A, c, rfl, hc⟩ := OwnG.form h
  exact ⟨A, c, rfl, hc, OwnG.row h⟩
theorem wpList_append_Z {w0 w : World} {ops : Array Oper} {rest : List Oper} {o : Oper} {a : Act} {Q : Exit → Act → World → Prop} (hgd : o.guard = none) (s x : Operand)
    (ho : o.op = .call { callee := .builtin .append, args := #[s, x], argTypes := #[59, 59] })
    (v : Value) (l : List Nat) (hs : a.eval s = v) (hown : OwnZ w0 w v l) (hx : Ext w0 w)
    (A : Option Addr) (m c : Nat) (r : List Nat) (he : a.eval x = .slice A m c) (hm : r.length = m) (hr : Row w A (r.map Vz)) (hb : l.length + r.length ≤ 100000)
    (h : ∀ v' w', OwnZ w0 w' v' (l ++ r) → Ext w0 w' → w.grownBy w' v.ownBlock → wpList Try.prog ops Q rest (a.put o.dst v') w') : wpList Try.prog ops Q (o :: rest) a w := by
  obtain ⟨i, hi, hz0, hz1, hz2⟩ := info_parts infoZ
  subst hm
  refine wpList_append_row w hgd s x _ ho w0.heap.size 3 i _ 1 8 Try.underlying59 hi hz0 hz1 hz2 rfl (by omega) v l.length _ hs hown A r.length c _ he (by simp) hr (map_Vz_one r)
    (by unfold maxLen; omega) (by omega) hx.size ?_
  intro v' w' h1 h2
  refine h v' w' ?_ (hx.grown h2 (OwnG.lt hown)) h2
  unfold OwnZ OwnG
  rw [List.map_append, List.length_append]
  exact h1
theorem rowZ_new (w : World) (x : Nat) : Row (w.alloc (.cells #[.int .i64 (x : Int)] 3)) (some ⟨w.heap.size, 0, none⟩) ([x].map Vz) := Row.new w #[.int .i64 (x : Int)] 3

end Go.Proofs.Ytanknhalgoheeaa
