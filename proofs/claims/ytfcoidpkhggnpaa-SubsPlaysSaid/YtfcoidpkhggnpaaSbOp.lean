/-
  What opens slices of messages and of deeds that came in; no claim stands here.
-/
import Derived.Test.YtfcoidpkhggnpaaOpnS
import Derived.Test.YtfcoidpkhggnpaaSbM
import Derived.Test.YtfcoidpkhggnpaaSbP
import Derived.SizedLaws
namespace Go.Proofs.Ytfcoidpkhggnpaa
open Go.ChangeShapes Go.WideShapes Go.ChangeAt Go.RowKit Go.Sort
set_option linter.unusedVariables false

instance : Inhabited Ms := ⟨⟨0, false, [], 0, 0, []⟩⟩
instance : Inhabited Dd := ⟨⟨0, default⟩⟩
/-- whatever is read of it takes no more than a process can -/
def SzD {H : Type} (t : TypeId) (d : DataW H) : Prop := ∀ n ∈ d.weights Try.prog t, n ≤ reachBytes
theorem SzD.part {H : Type} {t : TypeId} {fs : Array Field} {parts : List (DataW H)} (h : SzD t (.agg parts)) (ht : Try.prog.underlying t = some (.struct fs)) {j : Nat} {u : TypeId} {d : DataW H} (hu : (fs.toList.map (·.type))[j]? = some u) (hd : parts[j]? = some d) : SzD u d := fun n hn =>
  h n (by simp only [DataW.weights, ht]; exact DataW.weights_mem_each hu hd n hn)
theorem SzD.str {H : Type} {t : TypeId} {fs : Array Field} {parts : List (DataW H)} {bytes : List UInt8} (h : SzD t (.agg parts)) (ht : Try.prog.underlying t = some (.struct fs)) {j : Nat} {u : TypeId} (hu : (fs.toList.map (·.type))[j]? = some u) (hd : parts[j]? = some (.lit (.string bytes))) : bytes.length ≤ 281474976710656 := by
  have := h.part ht hu hd bytes.length (by simp [DataW.weights])
  unfold reachBytes at this
  omega
theorem weights_all {H : Type} {e : TypeId} : ∀ {l : List (DataW H)} {y : DataW H}, y ∈ l → ∀ n ∈ y.weights Try.prog e, n ∈ DataW.weightsAll Try.prog e l
  | x :: l, y, hy, n, hn => by
    rw [DataW.weightsAll, List.mem_append]
    rcases List.mem_cons.1 hy with rfl | hy
    · exact .inl hn
    · exact .inr (weights_all hy n hn)
theorem SzD.elems {H : Type} {t e : TypeId} {d : DataW H} (h : SzD t d) (ht : Try.prog.underlying t = some (.slice e)) (es ss : List (DataW H)) (hd : d = .slice es ss) (y : DataW H) (hy : y ∈ es) : SzD e y := fun n hn =>
  h n (by subst hd; simp only [DataW.weights, ht, List.mem_cons, List.mem_append]; exact .inr (.inl (weights_all hy n hn)))
theorem SzD.of {H : Type} {ts : List TypeId} {ds : List (DataW H)} (h : (DataW.weightsEach Try.prog ts ds).all (· ≤ reachBytes) = true) {j : Nat} {t : TypeId} {d : DataW H} (ht : ts[j]? = some t) (hd : ds[j]? = some d) : SzD t d := fun n hn => by
  have := List.all_eq_true.1 h n (DataW.weights_mem_each ht hd n hn)
  simpa using this
theorem vs_back (z : ByteArray) : Value.string z = Vs z.data.toList := by simp
set_option maxRecDepth 100000 in
theorem edit_cells {H : Type} {enc : TypeId × Value → H} {W : World} {base : Nat} {sp : Nat → Bool} {hd : Bool} {fuel : Nat} {v0 v1 v2 : Value} {x : DataW H × List MemPlace} (h : DataW.trod enc Try.prog W base sp hd fuel 36 [v0, v1, v2] = some x) (hw : SzD 36 x.1) :
    ∃ (a d : Int) (i : List UInt8), v0 = Vi a ∧ v1 = Vi d ∧ v2 = Vs i ∧ i.length ≤ 281474976710656 := by
  obtain ⟨xs, k, hk, hxy, _, hxl, hfd⟩ := DataW.trod_struct Try.underlying36 h
  match xs, hxl with
  | [y0, y1, y2], _ =>
    have g0 := hfd 0 _ rfl
    have g1 := hfd 1 _ rfl
    have g2 := hfd 2 _ rfl
    have cu : Try.prog.cellsOf 3 = 1 := by kernel_rfl
    have cs : Try.prog.cellsOf 9 = 1 := by kernel_rfl
    simp [cu, cs] at g0 g1 g2
    obtain ⟨a, t0, _, wa⟩ := DataW.trod_int Try.underlying3 g0
    obtain ⟨b, t1, _, wb⟩ := DataW.trod_int Try.underlying3 g1
    obtain ⟨z, t2, u2, wz⟩ := DataW.trod_string Try.underlying9 g2
    simp at t0 t1 t2
    subst hxy
    refine ⟨a, b, z.data.toList, t0, t1, by rw [t2, vs_back], hw.str Try.underlying36 (j := 2) rfl (by rw [List.map_cons, List.map_cons, List.map_cons]; exact congrArg some (congrArg Prod.fst u2))⟩
set_option maxRecDepth 100000 in
theorem ms_cells {H : Type} {enc : TypeId × Value → H} {W : World} {base : Nat} {sp : Nat → Bool} {hd : Bool} (fuel : Nat) (cs : List Value) (x : DataW H × List MemPlace) (hl : cs.length = 6) (h : DataW.trod enc Try.prog W base sp hd fuel 38 cs = some x) (hw : SzD 38 x.1) :
    ∃ q, SmM q ∧ encM q = cs := by
  match cs, hl with
  | [v0, v1, v2, v3, v4, v5], _ =>
    obtain ⟨xs, k, hk, hxy, _, hxl, hfd⟩ := DataW.trod_struct Try.underlying38 h
    match xs, hxl with
    | [y0, y1, y2, y3], _ =>
      have g0 := hfd 0 _ rfl
      have g1 := hfd 1 _ rfl
      have g2 := hfd 2 _ rfl
      have g3 := hfd 3 _ rfl
      have ci : Try.prog.cellsOf 3 = 1 := by kernel_rfl
      have cb : Try.prog.cellsOf 4 = 1 := by kernel_rfl
      have cs' : Try.prog.cellsOf 9 = 1 := by kernel_rfl
      have ce : Try.prog.cellsOf 36 = 3 := by kernel_rfl
      simp [ci, cb, cs', ce] at g0 g1 g2 g3
      obtain ⟨a, t0, _, wa⟩ := DataW.trod_int Try.underlying3 g0
      obtain ⟨b, t1, _⟩ := DataW.trod_bool Try.underlying4 g1
      obtain ⟨z, t2, u2, wz⟩ := DataW.trod_string Try.underlying9 g2
      subst hxy
      obtain ⟨ea, ed, ei, rfl, rfl, rfl, hei⟩ := edit_cells g3 (hw.part Try.underlying38 (j := 3) rfl rfl)
      have hzl := hw.str Try.underlying38 (j := 2) (bytes := z.data.toList) rfl (by rw [List.map_cons, List.map_cons, List.map_cons]; exact congrArg some (congrArg Prod.fst u2))
      simp at t0 t1 t2
      subst t0
      subst t1
      subst t2
      exact ⟨⟨a, b, z.data.toList, ea, ed, ei⟩, ⟨hzl, hei⟩, by simp [encM]⟩
set_option maxRecDepth 100000 in
theorem deed_cells {H : Type} {enc : TypeId × Value → H} {W : World} {base : Nat} {sp : Nat → Bool} {hd : Bool} (fuel : Nat) (cs : List Value) (x : DataW H × List MemPlace) (hl : cs.length = 7) (h : DataW.trod enc Try.prog W base sp hd fuel 40 cs = some x) (hw : SzD 40 x.1) :
    ∃ q : Dd, SmM q.m ∧ encD q = cs := by
  match cs, hl with
  | [v0, v1, v2, v3, v4, v5, v6], _ =>
    obtain ⟨xs, k, hk, hxy, _, hxl, hfd⟩ := DataW.trod_struct Try.underlying40 h
    match xs, hxl with
    | [y0, y1], _ =>
      have g0 := hfd 0 _ rfl
      have g1 := hfd 1 _ rfl
      have ci : Try.prog.cellsOf 3 = 1 := by kernel_rfl
      have cm : Try.prog.cellsOf 38 = 6 := by kernel_rfl
      simp [ci, cm] at g0 g1
      obtain ⟨a, t0, _, wa⟩ := DataW.trod_int Try.underlying3 g0
      simp at t0
      subst t0
      subst hxy
      obtain ⟨q, hs, hq⟩ := ms_cells _ _ _ rfl g1 (hw.part Try.underlying40 (j := 1) rfl rfl)
      exact ⟨⟨a, q⟩, hs, by rw [← hq]; rfl⟩
set_option maxRecDepth 100000 in
theorem deeds_open {H : Type} {enc : TypeId × Value → H} {W : World} {base b0 : Nat} {sp : Nat → Bool} {hd : Bool} {r : Reach} {v : Value} {d : DataW H} {p : List MemPlace} (hv : Value.okWide Try.prog W r b0 22 v) (h : DataW.Trod enc Try.prog W base sp hd 22 v d p) (hw : SzD 22 d) :
    ∃ (A : Option Addr) (n cap : Nat) (l : List Dd), v = .slice A n cap ∧ l.length = n ∧ n ≤ cap ∧ n ≤ maxLen ∧ DdS W A l ∧ ∀ x ∈ l, SmM x.m :=
  structs_openW encD_len (by omega) Try.underlying22 (by kernel_rfl) (SzD 40) (hw.elems Try.underlying22) deed_cells hv h
set_option maxRecDepth 100000 in
theorem mss_open {H : Type} {enc : TypeId × Value → H} {W : World} {base b0 : Nat} {sp : Nat → Bool} {hd : Bool} {r : Reach} {v : Value} {d : DataW H} {p : List MemPlace} (hv : Value.okWide Try.prog W r b0 31 v) (h : DataW.Trod enc Try.prog W base sp hd 31 v d p) (hw : SzD 31 d) :
    ∃ (A : Option Addr) (n cap : Nat) (l : List Ms), v = .slice A n cap ∧ l.length = n ∧ n ≤ cap ∧ n ≤ maxLen ∧ MsS W A l ∧ ∀ x ∈ l, SmM x :=
  structs_openW encM_len (by omega) Try.underlying31 (by kernel_rfl) (SzD 38) (hw.elems Try.underlying31) ms_cells hv h

end Go.Proofs.Ytfcoidpkhggnpaa
