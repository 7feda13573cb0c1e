/-
  Slices of items and of runs: read, cut, made, appended, stored into; no claim stands here.
-/
import Derived.Test.YtfcoidpkhggnpaaByt
import Derived.Test.YtfcoidpkhggnpaaNMath
import Derived.Test.YtfcoidpkhggnpaaIds
import Derived.Deep.QuietTactic
import Derived.Deep.LoopGhost
import Derived.RegionTactic
import Derived.IntWalk
namespace Go.Proofs.Ytfcoidpkhggnpaa
open Go.ChangeShapes Go.WideShapes Go.ChangeAt Go.RowKit Go.Sort
set_option linter.unusedVariables false

/-- append to a row of the call's own, with what becomes of its block -/
theorem run_append_rowB {P : Program} (w : World) (base : Nat) (t ty e : TypeId) (i : TypeInfo) (z : Value) (size bytes : Nat) (ht : P.underlying t = some (.slice e)) (hi : P.info? e = some i) (hz : i.zero = some z)
    (hsize : i.size = size) (hby : i.bytes = bytes) (hzs : z.cells.size = size) (hsz : 0 < size)
    (v : Value) (n : Nat) (xs : List Value) (hown : w.ownsRow base e size v n xs)
    (A : Option Addr) (m c : Nat) (news : List Value) (hl : news.length = m * size) (hr : Row w A news) (h1 : ∀ u ∈ news, u.oneCell' = true)
    (h63 : n + m ≤ maxLen) (hbytes : (n + m) * bytes ≤ 140737488355328) (hbase : base ≤ w.heap.size) :
    ∃ v' w', (Builtin.append_ #[t, t] ty #[v, .slice A m c]).run P w = .ok v' w' ∧ w'.ownsRow base e size v' (n + m) (xs ++ news) ∧ w.grownBy w' v.ownBlock ∧ (v'.ownBlock = v.ownBlock ∨ v'.ownBlock = some w.heap.size) := by
  cases A with
  | none =>
    have h0 : news = [] := by
      cases news with
      | nil => rfl
      | cons u us => obtain ⟨b, o, e, _⟩ := hr (by simp); cases e
    subst h0
    have hm : m = 0 := by
      have := hl
      simp only [List.length_nil] at this
      rcases Nat.mul_eq_zero.1 this.symm with h | h
      · exact h
      · omega
    subst hm
    refine ⟨v, w, ?_, by simpa using hown, ⟨rfl, rfl, rfl, Nat.le_refl _, fun _ _ _ => rfl⟩, .inl rfl⟩
    rcases hown.2 with ⟨rfl, rfl⟩ | ⟨g, cap, cur, rfl, _, _, hnc, _⟩
    · simp [Builtin.append_, run_underlying ht, sizeOf, typeInfo, hi, Builtin.lenOf, Builtin.firstCells]
    · simp [Builtin.append_, run_underlying ht, sizeOf, typeInfo, hi, Builtin.lenOf, Builtin.firstCells, hnc, storeCells]
  | some ad =>
    obtain ⟨v', w', hrun, h2, h3, _, h5⟩ := run_append_own_at (P := P) w base t ty e i z size bytes ht hi hz hsize hby hzs hsz v n xs hown ad m c news hl (fun j u hu => by
      obtain ⟨b, o, e, hc⟩ := hr (by cases news <;> simp at hu ⊢)
      injection e with e
      subst e
      rw [add_at]
      exact hc j u hu) h1 h63 hbytes hbase
    exact ⟨v', w', hrun, h2, h3, h5⟩

/-- the cells of an item -/
def encI (x : It) : List Value := [Vu x.c, Vu x.k, Vu x.lc, Vu x.lk, Vu x.rc, Vu x.rk, .int .i32 x.ch]
abbrev itv (x : It) : Value := .agg #[.int .u32 x.c, .int .u32 x.k, .int .u32 x.lc, .int .u32 x.lk, .int .u32 x.rc, .int .u32 x.rk, .int .i32 x.ch]
theorem encI_len (p : It) : (encI p).length = 7 := rfl
theorem encI_one (p : It) : ∀ u ∈ encI p, u.oneCell' = true := by intro u hu; simp [encI] at hu; rcases hu with rfl | rfl | rfl | rfl | rfl | rfl | rfl <;> rfl
/-- from that address on lie these -/
def ItS (w : World) (A : Option Addr) (l : List It) : Prop := Row w A (flat encI l)
theorem ItS.ext {w w' : World} {A : Option Addr} {l : List It} (h : ItS w A l) (hx : Ext w w') : ItS w' A l := Row.ext h hx
theorem ItS.nil (w : World) (A : Option Addr) : ItS w A [] := Row.nil w A
/-- the cells of one, from an address on -/
structure ItC (w : World) (b o : Nat) (x : It) : Prop where
  c0 : w.cell? ⟨b, o, none⟩ = some (Vu x.c)
  c1 : w.cell? ⟨b, o + 1, none⟩ = some (Vu x.k)
  c2 : w.cell? ⟨b, o + 2, none⟩ = some (Vu x.lc)
  c3 : w.cell? ⟨b, o + 3, none⟩ = some (Vu x.lk)
  c4 : w.cell? ⟨b, o + 4, none⟩ = some (Vu x.rc)
  c5 : w.cell? ⟨b, o + 5, none⟩ = some (Vu x.rk)
  c6 : w.cell? ⟨b, o + 6, none⟩ = some (.int .i32 x.ch)
theorem ItC.ext {w w' : World} {b o : Nat} {x : It} (h : ItC w b o x) (hx : Ext w w') : ItC w' b o x := ⟨hx.keep h.c0, hx.keep h.c1, hx.keep h.c2, hx.keep h.c3, hx.keep h.c4, hx.keep h.c5, hx.keep h.c6⟩
theorem ItS.at {w : World} {A : Option Addr} {l : List It} (h : ItS w A l) {k : Nat} (hk : k < l.length) : ∃ b o x, A = some ⟨b, o, none⟩ ∧ l[k]? = some x ∧ ItC w b (o + k * 7) x := by
  obtain ⟨x, hp⟩ : ∃ p, l[k]? = some p := ⟨l[k], List.getElem?_eq_getElem hk⟩
  obtain ⟨b, o, e, hc⟩ := Row.at h encI_len hp (by omega)
  exact ⟨b, o, x, e, hp, hc 0 _ rfl, hc 1 _ rfl, hc 2 _ rfl, hc 3 _ rfl, hc 4 _ rfl, hc 5 _ rfl, hc 6 _ rfl⟩
theorem ItS.take {w : World} {A : Option Addr} {l : List It} (h : ItS w A l) (k : Nat) : ItS w A (l.take k) := by
  unfold ItS; rw [flat_take encI_len]; exact Row.take h _
theorem ItS.cut {w : World} {A : Option Addr} {l : List It} (h : ItS w A l) {n cap k : Nat} (hn : l.length = n) (hc : n ≤ cap) (hk : k ≤ n) : ItS w (cutA A cap k 7) (l.drop k) := by
  unfold ItS; rw [flat_drop encI_len]; exact Row.cut h (n := n) (by rw [flat_len encI_len, hn]) hc hk
/-- the cells of a run -/
def encR (x : Rn) : List Value := [Vu x.c, Vu x.k, Vu x.lc, Vu x.lk, Vu x.rc, Vu x.rk, .string ⟨x.t.toArray⟩]
abbrev rnv (x : Rn) : Value := .agg #[.int .u32 x.c, .int .u32 x.k, .int .u32 x.lc, .int .u32 x.lk, .int .u32 x.rc, .int .u32 x.rk, .string ⟨x.t.toArray⟩]
theorem encR_len (p : Rn) : (encR p).length = 7 := rfl
theorem encR_one (p : Rn) : ∀ u ∈ encR p, u.oneCell' = true := by intro u hu; simp [encR] at hu; rcases hu with rfl | rfl | rfl | rfl | rfl | rfl | rfl <;> rfl
/-- from that address on lie these -/
def RnS (w : World) (A : Option Addr) (l : List Rn) : Prop := Row w A (flat encR l)
theorem RnS.ext {w w' : World} {A : Option Addr} {l : List Rn} (h : RnS w A l) (hx : Ext w w') : RnS w' A l := Row.ext h hx
theorem RnS.nil (w : World) (A : Option Addr) : RnS w A [] := Row.nil w A
/-- the cells of one, from an address on -/
structure RnC (w : World) (b o : Nat) (x : Rn) : Prop where
  c0 : w.cell? ⟨b, o, none⟩ = some (Vu x.c)
  c1 : w.cell? ⟨b, o + 1, none⟩ = some (Vu x.k)
  c2 : w.cell? ⟨b, o + 2, none⟩ = some (Vu x.lc)
  c3 : w.cell? ⟨b, o + 3, none⟩ = some (Vu x.lk)
  c4 : w.cell? ⟨b, o + 4, none⟩ = some (Vu x.rc)
  c5 : w.cell? ⟨b, o + 5, none⟩ = some (Vu x.rk)
  c6 : w.cell? ⟨b, o + 6, none⟩ = some (.string ⟨x.t.toArray⟩)
theorem RnC.ext {w w' : World} {b o : Nat} {x : Rn} (h : RnC w b o x) (hx : Ext w w') : RnC w' b o x := ⟨hx.keep h.c0, hx.keep h.c1, hx.keep h.c2, hx.keep h.c3, hx.keep h.c4, hx.keep h.c5, hx.keep h.c6⟩
theorem RnS.at {w : World} {A : Option Addr} {l : List Rn} (h : RnS w A l) {k : Nat} (hk : k < l.length) : ∃ b o x, A = some ⟨b, o, none⟩ ∧ l[k]? = some x ∧ RnC w b (o + k * 7) x := by
  obtain ⟨x, hp⟩ : ∃ p, l[k]? = some p := ⟨l[k], List.getElem?_eq_getElem hk⟩
  obtain ⟨b, o, e, hc⟩ := Row.at h encR_len hp (by omega)
  exact ⟨b, o, x, e, hp, hc 0 _ rfl, hc 1 _ rfl, hc 2 _ rfl, hc 3 _ rfl, hc 4 _ rfl, hc 5 _ rfl, hc 6 _ rfl⟩
theorem RnS.take {w : World} {A : Option Addr} {l : List Rn} (h : RnS w A l) (k : Nat) : RnS w A (l.take k) := by
  unfold RnS; rw [flat_take encR_len]; exact Row.take h _
theorem RnS.cut {w : World} {A : Option Addr} {l : List Rn} (h : RnS w A l) {n cap k : Nat} (hn : l.length = n) (hc : n ≤ cap) (hk : k ≤ n) : RnS w (cutA A cap k 7) (l.drop k) := by
  unfold RnS; rw [flat_drop encR_len]; exact Row.cut h (n := n) (by rw [flat_len encR_len, hn]) hc hk
end Go.Proofs.Ytfcoidpkhggnpaa
