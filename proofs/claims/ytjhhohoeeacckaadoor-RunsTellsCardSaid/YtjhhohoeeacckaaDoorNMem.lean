/-
  Slices of items and of runs: read, cut, made, appended, stored into; no claim stands here.
-/
import Derived.Test.YtjhhohoeeacckaaDoorByt
import Derived.Test.YtjhhohoeeacckaaDoorNMath
import Derived.Test.YtjhhohoeeacckaaDoorIds
import Derived.Deep.QuietTactic
import Derived.Deep.LoopGhost
import Derived.RegionTactic
import Derived.IntWalk
namespace Go.Proofs.YtjhhohoeeacckaaDoor
open Go.ChangeShapes Go.WideShapes Go.ChangeAt Go.RowKit Go.Sort
set_option linter.unusedVariables false

/-- append to a row of the call's own, with what becomes of its block -/
theorem run_append_rowB {P : Program} (w : World) (base : Nat) (t ty e : TypeId) (i : TypeInfo) (z : Value) (size bytes : Nat) (ht : P.underlying t = some (.slice e)) (hi : P.info? e = some i) (hz : i.zero = some z)
    (hsize : i.size = size) (hby : i.bytes = bytes) (hzs : z.cells.size = size) (hsz : 0 < size)
    (v : Value) (n : Nat) (xs : List Value) (hown : w.ownsRow base e size v n xs)
    (A : Option Addr) (m c : Nat) (news : List Value) (hl : news.length = m * size) (hr : Row w A news) (h1 : ∀ u ∈ news, u.oneCell' = true)
    (h63 : n + m ≤ maxLen) (hbytes : (n + m) * bytes ≤ 140737488355328) (hbase : base ≤ w.heap.size) :
    ∃ v' w', (Builtin.append_ #[t, t] ty #[v, .slice A m c]).run P w = .ok v' w' ∧ w'.ownsRow base e size v' (n + m) (xs ++ news) ∧ w.grownBy w' v.ownBlock ∧ (v'.ownBlock = v.ownBlock ∨ v'.ownBlock = some w.heap.size) := by
  cases A with
  | none =>
    have h0 : news = [] := by
      cases news with
      | nil => rfl
      | cons u us => obtain ⟨b, o, e, _⟩ := hr (by simp); cases e
    subst h0
    have hm : m = 0 := by
      have := hl
      simp only [List.length_nil] at this
      rcases Nat.mul_eq_zero.1 this.symm with h | h
      · exact h
      · omega
    subst hm
    refine ⟨v, w, ?_, by simpa using hown, ⟨rfl, rfl, rfl, Nat.le_refl _, fun _ _ _ => rfl⟩, .inl rfl⟩
    rcases hown.2 with ⟨rfl, rfl⟩ | ⟨g, cap, cur, rfl, _, _, hnc, _⟩
    · simp [Builtin.append_, run_underlying ht, sizeOf, typeInfo, hi, Builtin.lenOf, Builtin.firstCells]
    · simp [Builtin.append_, run_underlying ht, sizeOf, typeInfo, hi, Builtin.lenOf, Builtin.firstCells, hnc, storeCells]
  | some ad =>
    obtain ⟨v', w', hrun, h2, h3, _, h5⟩ := run_append_own_at (P := P) w base t ty e i z size bytes ht hi hz hsize hby hzs hsz v n xs hown ad m c news hl (fun j u hu => by
      obtain ⟨b, o, e, hc⟩ := hr (by cases news <;> simp at hu ⊢)
      injection e with e
      subst e
      rw [add_at]
      exact hc j u hu) h1 h63 hbytes hbase
    exact ⟨v', w', hrun, h2, h3, h5⟩

/-- the cells of an item -/
def encI (x : It) : List Value := [Vu x.c, Vu x.k, Vu x.lc, Vu x.lk, Vu x.rc, Vu x.rk, .int .i32 x.ch]
abbrev itv (x : It) : Value := .agg #[.int .u32 x.c, .int .u32 x.k, .int .u32 x.lc, .int .u32 x.lk, .int .u32 x.rc, .int .u32 x.rk, .int .i32 x.ch]
theorem encI_len (p : It) : (encI p).length = 7 := rfl
theorem encI_one (p : It) : ∀ u ∈ encI p, u.oneCell' = true := by intro u hu; simp [encI] at hu; rcases hu with rfl | rfl | rfl | rfl | rfl | rfl | rfl <;> rfl
theorem infoI : (Tryd.prog.info? 39).map (fun i => (i.zero, i.size, i.bytes)) = some (some (.agg #[.int .u32 0, .int .u32 0, .int .u32 0, .int .u32 0, .int .u32 0, .int .u32 0, .int .i32 0]), 7, 28) := by kernel_rfl
/-- from that address on lie these -/
def ItS (w : World) (A : Option Addr) (l : List It) : Prop := Row w A (flat encI l)
theorem ItS.ext {w w' : World} {A : Option Addr} {l : List It} (h : ItS w A l) (hx : Ext w w') : ItS w' A l := Row.ext h hx
theorem ItS.nil (w : World) (A : Option Addr) : ItS w A [] := Row.nil w A
/-- the cells of one, from an address on -/
structure ItC (w : World) (b o : Nat) (x : It) : Prop where
  c0 : w.cell? ⟨b, o, none⟩ = some (Vu x.c)
  c1 : w.cell? ⟨b, o + 1, none⟩ = some (Vu x.k)
  c2 : w.cell? ⟨b, o + 2, none⟩ = some (Vu x.lc)
  c3 : w.cell? ⟨b, o + 3, none⟩ = some (Vu x.lk)
  c4 : w.cell? ⟨b, o + 4, none⟩ = some (Vu x.rc)
  c5 : w.cell? ⟨b, o + 5, none⟩ = some (Vu x.rk)
  c6 : w.cell? ⟨b, o + 6, none⟩ = some (.int .i32 x.ch)
theorem ItC.ext {w w' : World} {b o : Nat} {x : It} (h : ItC w b o x) (hx : Ext w w') : ItC w' b o x := ⟨hx.keep h.c0, hx.keep h.c1, hx.keep h.c2, hx.keep h.c3, hx.keep h.c4, hx.keep h.c5, hx.keep h.c6⟩
theorem ItS.at {w : World} {A : Option Addr} {l : List It} (h : ItS w A l) {k : Nat} (hk : k < l.length) : ∃ b o x, A = some ⟨b, o, none⟩ ∧ l[k]? = some x ∧ ItC w b (o + k * 7) x := by
  obtain ⟨x, hp⟩ : ∃ p, l[k]? = some p := ⟨l[k], List.getElem?_eq_getElem hk⟩
  obtain ⟨b, o, e, hc⟩ := Row.at h encI_len hp (by omega)
  exact ⟨b, o, x, e, hp, hc 0 _ rfl, hc 1 _ rfl, hc 2 _ rfl, hc 3 _ rfl, hc 4 _ rfl, hc 5 _ rfl, hc 6 _ rfl⟩
theorem ItS.take {w : World} {A : Option Addr} {l : List It} (h : ItS w A l) (k : Nat) : ItS w A (l.take k) := by
  unfold ItS; rw [flat_take encI_len]; exact Row.take h _
theorem ItS.cut {w : World} {A : Option Addr} {l : List It} (h : ItS w A l) {n cap k : Nat} (hn : l.length = n) (hc : n ≤ cap) (hk : k ≤ n) : ItS w (cutA A cap k 7) (l.drop k) := by
  unfold ItS; rw [flat_drop encI_len]; exact Row.cut h (n := n) (by rw [flat_len encI_len, hn]) hc hk
theorem ItS.new (w : World) (x : It) : ItS (w.alloc (.cells #[.int .u32 x.c, .int .u32 x.k, .int .u32 x.lc, .int .u32 x.lk, .int .u32 x.rc, .int .u32 x.rk, .int .i32 x.ch] 39)) (some ⟨w.heap.size, 0, none⟩) [x] := Row.new w #[.int .u32 x.c, .int .u32 x.k, .int .u32 x.lc, .int .u32 x.lk, .int .u32 x.rc, .int .u32 x.rk, .int .i32 x.ch] 39
theorem ItS.new2 (w : World) (o : Obj) (x : It) : ItS ((w.alloc o).alloc (.cells #[.int .u32 x.c, .int .u32 x.k, .int .u32 x.lc, .int .u32 x.lk, .int .u32 x.rc, .int .u32 x.rk, .int .i32 x.ch] 39)) (some ⟨w.heap.size + 1, 0, none⟩) [x] := by
  have h := ItS.new (w.alloc o) x
  rwa [show (w.alloc o).heap.size = w.heap.size + 1 by simp] at h
theorem fromI (A : Option Addr) (n cap k : Nat) (h1 : k ≤ n) (z : Int) (hz : z = k) (W : World) : (Instr.slice 23 (.slice A n cap) (some (.int .i64 z)) none none).run Tryd.prog W = .ok (.slice (cutA A cap k 7) (n - k) (cap - k)) W := by
  subst hz
  obtain ⟨i, hi, hz0, hz1, hz2⟩ := info_parts infoI
  have := run_from Tryd.underlying23 hi A n cap k W (by omega) (by omega)
  rw [hz1] at this
  exact this
theorem uptoI (A : Option Addr) (n cap k : Nat) (h1 : k ≤ cap) (z : Int) (hz : z = k) (W : World) : (Instr.slice 23 (.slice A n cap) none (some (.int .i64 z)) none).run Tryd.prog W = .ok (.slice A k cap) W := by
  subst hz
  obtain ⟨i, hi, hz0, hz1, hz2⟩ := info_parts infoI
  exact run_upto Tryd.underlying23 hi A n cap k W (by omega) (by omega)
/-- a row of the call's own -/
def OwnI (w W : World) (v : Value) (l : List It) : Prop := OwnG 39 7 w W v l.length (flat encI l)
theorem OwnI.nil (w W : World) : OwnI w W (.slice none 0 0) [] := OwnG.nil _ _ _ _
theorem OwnI.ext {w W W' : World} {v : Value} {l : List It} (h : OwnI w W v l) (hx : Ext W W') : OwnI w W' v l := OwnG.ext h hx
theorem OwnI.down {w0 w W : World} {v : Value} {l : List It} (h : OwnI w W v l) (hx : Ext w0 w) : OwnI w0 W v l := OwnG.down h hx
theorem OwnI.lt {w W : World} {v : Value} {l : List It} (h : OwnI w W v l) : ∀ k, v.ownBlock = some k → w.heap.size ≤ k ∧ k < W.heap.size := World.ownsRow.lt h
theorem OwnI.open {w W : World} {v : Value} {l : List It} (h : OwnI w W v l) : ∃ A c, v = .slice A l.length c ∧ l.length ≤ c ∧ ItS W A l := by
  obtain ⟨A, c, rfl, hc⟩ := OwnG.form h
  exact ⟨A, c, rfl, hc, OwnG.row h⟩
theorem OwnI.kept {w W W' : World} {v : Value} {l : List It} {row : Option Nat} (h : OwnI w W v l) (hg : W.grownBy W' row) (hn : v.ownBlock = none ∨ v.ownBlock ≠ row) : OwnI w W' v l := World.ownsRow.kept h hg hn
/-- these are told, in memory of the call's own -/
def RetI (w : World) (l : List It) (e : Ending) (w' : World) : Prop := ∃ v, e = .returned v ∧ OwnI w w' v l ∧ Ext w w'
theorem RetI.down {w0 w w' : World} {l : List It} {e : Ending} (h : RetI w l e w') (hx : Ext w0 w) : RetI w0 l e w' := by
  obtain ⟨v, h1, h2, h3⟩ := h
  exact ⟨v, h1, h2.down hx, hx.trans h3⟩

theorem wpList_append_I {w0 w : World} {ops : Array Oper} {rest : List Oper} {o : Oper} {a : Act} {Q : Exit → Act → World → Prop} (hgd : o.guard = none) (s x : Operand)
    (ho : o.op = .call { callee := .builtin .append, args := #[s, x], argTypes := #[23, 23] })
    (v : Value) (l : List It) (hs : a.eval s = v) (hown : OwnI w0 w v l) (hx : Ext w0 w)
    (A : Option Addr) (m c : Nat) (r : List It) (he : a.eval x = .slice A m c) (hm : r.length = m) (hr : ItS w A r) (hb : l.length + r.length ≤ 100000)
    (h : ∀ v' w', OwnI w0 w' v' (l ++ r) → Ext w0 w' → w.grownBy w' v.ownBlock → (v'.ownBlock = v.ownBlock ∨ v'.ownBlock = some w.heap.size) → wpList Tryd.prog ops Q rest (a.put o.dst v') w') : wpList Tryd.prog ops Q (o :: rest) a w := by
  refine wpList_plain hgd fun K hK => ?_
  obtain ⟨i, hi, hz0, hz1, hz2⟩ := info_parts infoI
  subst hm
  obtain ⟨v', w', hrun, h2, h3, h4⟩ := run_append_rowB (P := Tryd.prog) w w0.heap.size 23 o.type 39 i _ 7 28 Tryd.underlying23 hi hz0 hz1 hz2 rfl (by omega) v l.length _ hown A r.length c _ (flat_len encI_len r) hr (flat_one_cell encI_one r)
    (by unfold maxLen; omega) (by omega) hx.size
  unfold Oper.wp execOp
  simp only [ho, resolve, invoke, builtin, Sem.run_bind, Sem.run_pure, Result.andThen_ok, List.map_toArray, List.map_cons, List.map_nil, hs, he, hrun]
  refine hK _ _ (h v' w' ?_ (hx.grown h3 (OwnG.lt hown)) h3 h4)
  unfold OwnI OwnG
  rw [flat_append, List.length_append]
  exact h2

/-- the cells of a run -/
def encR (x : Rn) : List Value := [Vu x.c, Vu x.k, Vu x.lc, Vu x.lk, Vu x.rc, Vu x.rk, .string ⟨x.t.toArray⟩]
abbrev rnv (x : Rn) : Value := .agg #[.int .u32 x.c, .int .u32 x.k, .int .u32 x.lc, .int .u32 x.lk, .int .u32 x.rc, .int .u32 x.rk, .string ⟨x.t.toArray⟩]
theorem encR_len (p : Rn) : (encR p).length = 7 := rfl
theorem encR_one (p : Rn) : ∀ u ∈ encR p, u.oneCell' = true := by intro u hu; simp [encR] at hu; rcases hu with rfl | rfl | rfl | rfl | rfl | rfl | rfl <;> rfl
theorem infoR : (Tryd.prog.info? 29).map (fun i => (i.zero, i.size, i.bytes)) = some (some (.agg #[.int .u32 0, .int .u32 0, .int .u32 0, .int .u32 0, .int .u32 0, .int .u32 0, .string ⟨#[]⟩]), 7, 40) := by kernel_rfl
/-- from that address on lie these -/
def RnS (w : World) (A : Option Addr) (l : List Rn) : Prop := Row w A (flat encR l)
theorem RnS.ext {w w' : World} {A : Option Addr} {l : List Rn} (h : RnS w A l) (hx : Ext w w') : RnS w' A l := Row.ext h hx
theorem RnS.nil (w : World) (A : Option Addr) : RnS w A [] := Row.nil w A
/-- the cells of one, from an address on -/
structure RnC (w : World) (b o : Nat) (x : Rn) : Prop where
  c0 : w.cell? ⟨b, o, none⟩ = some (Vu x.c)
  c1 : w.cell? ⟨b, o + 1, none⟩ = some (Vu x.k)
  c2 : w.cell? ⟨b, o + 2, none⟩ = some (Vu x.lc)
  c3 : w.cell? ⟨b, o + 3, none⟩ = some (Vu x.lk)
  c4 : w.cell? ⟨b, o + 4, none⟩ = some (Vu x.rc)
  c5 : w.cell? ⟨b, o + 5, none⟩ = some (Vu x.rk)
  c6 : w.cell? ⟨b, o + 6, none⟩ = some (.string ⟨x.t.toArray⟩)
theorem RnC.ext {w w' : World} {b o : Nat} {x : Rn} (h : RnC w b o x) (hx : Ext w w') : RnC w' b o x := ⟨hx.keep h.c0, hx.keep h.c1, hx.keep h.c2, hx.keep h.c3, hx.keep h.c4, hx.keep h.c5, hx.keep h.c6⟩
theorem RnS.at {w : World} {A : Option Addr} {l : List Rn} (h : RnS w A l) {k : Nat} (hk : k < l.length) : ∃ b o x, A = some ⟨b, o, none⟩ ∧ l[k]? = some x ∧ RnC w b (o + k * 7) x := by
  obtain ⟨x, hp⟩ : ∃ p, l[k]? = some p := ⟨l[k], List.getElem?_eq_getElem hk⟩
  obtain ⟨b, o, e, hc⟩ := Row.at h encR_len hp (by omega)
  exact ⟨b, o, x, e, hp, hc 0 _ rfl, hc 1 _ rfl, hc 2 _ rfl, hc 3 _ rfl, hc 4 _ rfl, hc 5 _ rfl, hc 6 _ rfl⟩
theorem RnS.take {w : World} {A : Option Addr} {l : List Rn} (h : RnS w A l) (k : Nat) : RnS w A (l.take k) := by
  unfold RnS; rw [flat_take encR_len]; exact Row.take h _
theorem RnS.cut {w : World} {A : Option Addr} {l : List Rn} (h : RnS w A l) {n cap k : Nat} (hn : l.length = n) (hc : n ≤ cap) (hk : k ≤ n) : RnS w (cutA A cap k 7) (l.drop k) := by
  unfold RnS; rw [flat_drop encR_len]; exact Row.cut h (n := n) (by rw [flat_len encR_len, hn]) hc hk
theorem RnS.new (w : World) (x : Rn) : RnS (w.alloc (.cells #[.int .u32 x.c, .int .u32 x.k, .int .u32 x.lc, .int .u32 x.lk, .int .u32 x.rc, .int .u32 x.rk, .string ⟨x.t.toArray⟩] 29)) (some ⟨w.heap.size, 0, none⟩) [x] := Row.new w #[.int .u32 x.c, .int .u32 x.k, .int .u32 x.lc, .int .u32 x.lk, .int .u32 x.rc, .int .u32 x.rk, .string ⟨x.t.toArray⟩] 29
theorem RnS.new2 (w : World) (o : Obj) (x : Rn) : RnS ((w.alloc o).alloc (.cells #[.int .u32 x.c, .int .u32 x.k, .int .u32 x.lc, .int .u32 x.lk, .int .u32 x.rc, .int .u32 x.rk, .string ⟨x.t.toArray⟩] 29)) (some ⟨w.heap.size + 1, 0, none⟩) [x] := by
  have h := RnS.new (w.alloc o) x
  rwa [show (w.alloc o).heap.size = w.heap.size + 1 by simp] at h
theorem fromR (A : Option Addr) (n cap k : Nat) (h1 : k ≤ n) (z : Int) (hz : z = k) (W : World) : (Instr.slice 22 (.slice A n cap) (some (.int .i64 z)) none none).run Tryd.prog W = .ok (.slice (cutA A cap k 7) (n - k) (cap - k)) W := by
  subst hz
  obtain ⟨i, hi, hz0, hz1, hz2⟩ := info_parts infoR
  have := run_from Tryd.underlying22 hi A n cap k W (by omega) (by omega)
  rw [hz1] at this
  exact this
theorem uptoR (A : Option Addr) (n cap k : Nat) (h1 : k ≤ cap) (z : Int) (hz : z = k) (W : World) : (Instr.slice 22 (.slice A n cap) none (some (.int .i64 z)) none).run Tryd.prog W = .ok (.slice A k cap) W := by
  subst hz
  obtain ⟨i, hi, hz0, hz1, hz2⟩ := info_parts infoR
  exact run_upto Tryd.underlying22 hi A n cap k W (by omega) (by omega)
/-- a row of the call's own -/
def OwnR (w W : World) (v : Value) (l : List Rn) : Prop := OwnG 29 7 w W v l.length (flat encR l)
theorem OwnR.nil (w W : World) : OwnR w W (.slice none 0 0) [] := OwnG.nil _ _ _ _
theorem OwnR.ext {w W W' : World} {v : Value} {l : List Rn} (h : OwnR w W v l) (hx : Ext W W') : OwnR w W' v l := OwnG.ext h hx
theorem OwnR.down {w0 w W : World} {v : Value} {l : List Rn} (h : OwnR w W v l) (hx : Ext w0 w) : OwnR w0 W v l := OwnG.down h hx
theorem OwnR.lt {w W : World} {v : Value} {l : List Rn} (h : OwnR w W v l) : ∀ k, v.ownBlock = some k → w.heap.size ≤ k ∧ k < W.heap.size := World.ownsRow.lt h
theorem OwnR.open {w W : World} {v : Value} {l : List Rn} (h : OwnR w W v l) : ∃ A c, v = .slice A l.length c ∧ l.length ≤ c ∧ RnS W A l := by
  obtain ⟨A, c, rfl, hc⟩ := OwnG.form h
  exact ⟨A, c, rfl, hc, OwnG.row h⟩
theorem OwnR.kept {w W W' : World} {v : Value} {l : List Rn} {row : Option Nat} (h : OwnR w W v l) (hg : W.grownBy W' row) (hn : v.ownBlock = none ∨ v.ownBlock ≠ row) : OwnR w W' v l := World.ownsRow.kept h hg hn
/-- these are told, in memory of the call's own -/
def RetR (w : World) (l : List Rn) (e : Ending) (w' : World) : Prop := ∃ v, e = .returned v ∧ OwnR w w' v l ∧ Ext w w'
theorem RetR.down {w0 w w' : World} {l : List Rn} {e : Ending} (h : RetR w l e w') (hx : Ext w0 w) : RetR w0 l e w' := by
  obtain ⟨v, h1, h2, h3⟩ := h
  exact ⟨v, h1, h2.down hx, hx.trans h3⟩

theorem wpList_append_R {w0 w : World} {ops : Array Oper} {rest : List Oper} {o : Oper} {a : Act} {Q : Exit → Act → World → Prop} (hgd : o.guard = none) (s x : Operand)
    (ho : o.op = .call { callee := .builtin .append, args := #[s, x], argTypes := #[22, 22] })
    (v : Value) (l : List Rn) (hs : a.eval s = v) (hown : OwnR w0 w v l) (hx : Ext w0 w)
    (A : Option Addr) (m c : Nat) (r : List Rn) (he : a.eval x = .slice A m c) (hm : r.length = m) (hr : RnS w A r) (hb : l.length + r.length ≤ 100000)
    (h : ∀ v' w', OwnR w0 w' v' (l ++ r) → Ext w0 w' → w.grownBy w' v.ownBlock → (v'.ownBlock = v.ownBlock ∨ v'.ownBlock = some w.heap.size) → wpList Tryd.prog ops Q rest (a.put o.dst v') w') : wpList Tryd.prog ops Q (o :: rest) a w := by
  refine wpList_plain hgd fun K hK => ?_
  obtain ⟨i, hi, hz0, hz1, hz2⟩ := info_parts infoR
  subst hm
  obtain ⟨v', w', hrun, h2, h3, h4⟩ := run_append_rowB (P := Tryd.prog) w w0.heap.size 22 o.type 29 i _ 7 40 Tryd.underlying22 hi hz0 hz1 hz2 rfl (by omega) v l.length _ hown A r.length c _ (flat_len encR_len r) hr (flat_one_cell encR_one r)
    (by unfold maxLen; omega) (by omega) hx.size
  unfold Oper.wp execOp
  simp only [ho, resolve, invoke, builtin, Sem.run_bind, Sem.run_pure, Result.andThen_ok, List.map_toArray, List.map_cons, List.map_nil, hs, he, hrun]
  refine hK _ _ (h v' w' ?_ (hx.grown h3 (OwnG.lt hown)) h3 h4)
  unfold OwnR OwnG
  rw [flat_append, List.length_append]
  exact h2

/-- a block that holds one item -/
def BoxI (W : World) (g : Nat) (x : It) : Prop := W.heap[g]? = some (.cells #[Vu x.c, Vu x.k, Vu x.lc, Vu x.lk, Vu x.rc, Vu x.rk, .int .i32 x.ch] 39 (0, 0))
theorem BoxI.grown {W W' : World} {g : Nat} {x : It} {row : Option Nat} (h : BoxI W g x) (hg : W.grownBy W' row) (hn : some g ≠ row) : BoxI W' g x := by
  unfold BoxI at h ⊢
  rw [hg.block g (Array.getElem?_eq_some_iff.1 h).1 hn]; exact h
theorem BoxI.ext {W W' : World} {g : Nat} {x : It} (h : BoxI W g x) (hx : Ext W W') : BoxI W' g x := by
  unfold BoxI at h ⊢
  rw [RowKit.Below.block hx g (Array.getElem?_eq_some_iff.1 h).1]; exact h
theorem BoxI.cells {W : World} {g : Nat} {x : It} (h : BoxI W g x) : ItC W g 0 x :=
  ⟨by rw [cell_of_row W g 0 _ _ _ h]; rfl, by rw [cell_of_row W g (0 + 1) _ _ _ h]; rfl, by rw [cell_of_row W g (0 + 2) _ _ _ h]; rfl, by rw [cell_of_row W g (0 + 3) _ _ _ h]; rfl, by rw [cell_of_row W g (0 + 4) _ _ _ h]; rfl, by rw [cell_of_row W g (0 + 5) _ _ _ h]; rfl, by rw [cell_of_row W g (0 + 6) _ _ _ h]; rfl⟩
theorem BoxI.lt {W : World} {g : Nat} {x : It} (h : BoxI W g x) : g < W.heap.size := (Array.getElem?_eq_some_iff.1 h).1

end Go.Proofs.YtjhhohoeeacckaaDoor
