/-
  Several texts of this seat in one file, each in the namespace again; no claim stands here.
-/
import Derived.Deep.RegionHeld
import Derived.StillTailTactics
import Derived.StillTactics
import Derived.Test.YtnocdfmmhnnbeaaXO
import Derived.Test.YtnocdfmmhnnbeaaUMth
import Derived.Test.YtnocdfmmhnnbeaaXN
namespace Go.Proofs.Ytnocdfmmhnnbeaa
open Go.ChangeShapes Go.WideShapes Go.ChangeAt Go.RowKit Go.Sort
set_option linter.unusedVariables false
set_option linter.unusedSimpArgs false
attribute [local go_sem] World.cell?_alloc_some

/-- the cells of a node -/
def encN (x : Nd) : List Value := [Vu x.id.1, Vu x.id.2, Vi (x.on : Int), .bool x.right, Vi (x.depth : Int), Vi (x.far : Int)]
abbrev ndv (a b : Int) (on : Int) (r : Bool) (dp far : Int) : Value := .agg #[.int .u32 a, .int .u32 b, .int .i64 on, .bool r, .int .i64 dp, .int .i64 far]
theorem encN_len (p : Nd) : (encN p).length = 6 := rfl
theorem encN_one (p : Nd) : ∀ u ∈ encN p, u.oneCell' = true := by intro u hu; simp [encN] at hu; rcases hu with rfl | rfl | rfl | rfl | rfl | rfl <;> rfl
theorem infoN : (Try.prog.info? 68).map (fun i => (i.zero, i.size, i.bytes)) = some (some (.agg #[.int .u32 0, .int .u32 0, .int .i64 0, .bool false, .int .i64 0, .int .i64 0]), 6, 40) := by kernel_rfl
/-- from that address on lie these -/
def NdS (w : World) (A : Option Addr) (l : List Nd) : Prop := Row w A (flat encN l)
theorem NdS.ext {w w' : World} {A : Option Addr} {l : List Nd} (h : NdS w A l) (hx : Ext w w') : NdS w' A l := Row.ext h hx
structure NdC (w : World) (b o : Nat) (x : Nd) : Prop where
  c0 : w.cell? ⟨b, o, none⟩ = some (Vu x.id.1)
  c1 : w.cell? ⟨b, o + 1, none⟩ = some (Vu x.id.2)
  c2 : w.cell? ⟨b, o + 2, none⟩ = some (Vi (x.on : Int))
  c3 : w.cell? ⟨b, o + 3, none⟩ = some (.bool x.right)
  c4 : w.cell? ⟨b, o + 4, none⟩ = some (Vi (x.depth : Int))
  c5 : w.cell? ⟨b, o + 5, none⟩ = some (Vi (x.far : Int))
theorem NdC.ext {w w' : World} {b o : Nat} {x : Nd} (h : NdC w b o x) (hx : Ext w w') : NdC w' b o x := ⟨hx.keep h.c0, hx.keep h.c1, hx.keep h.c2, hx.keep h.c3, hx.keep h.c4, hx.keep h.c5⟩
theorem NdS.at {w : World} {b o : Nat} {l : List Nd} (h : NdS w (some ⟨b, o, none⟩) l) {k : Nat} {x : Nd} (hp : l[k]? = some x) : NdC w b (o + k * 6) x := by
  obtain ⟨b', o', e, hc⟩ := Row.at h encN_len hp (by omega)
  injection e with e
  injection e with e1 e2 e3
  subst e1
  subst e2
  exact ⟨hc 0 _ rfl, hc 1 _ rfl, hc 2 _ rfl, hc 3 _ rfl, hc 4 _ rfl, hc 5 _ rfl⟩
theorem NdS.place {w : World} {A : Option Addr} {l : List Nd} (h : NdS w A l) (h0 : 0 < l.length) : ∃ b o, A = some ⟨b, o, none⟩ := by
  obtain ⟨b, o, e, _⟩ := h (by rw [flat_len encN_len]; omega)
  exact ⟨b, o, e⟩
theorem NdS.new (w : World) (x : Nd) : NdS (w.alloc (.cells #[.int .u32 x.id.1, .int .u32 x.id.2, .int .i64 x.on, .bool x.right, .int .i64 x.depth, .int .i64 x.far] 68)) (some ⟨w.heap.size, 0, none⟩) [x] := Row.new w #[.int .u32 x.id.1, .int .u32 x.id.2, .int .i64 x.on, .bool x.right, .int .i64 x.depth, .int .i64 x.far] 68
/-- a row of the call's own -/
def OwnN (w W : World) (v : Value) (l : List Nd) : Prop := OwnG 68 6 w W v l.length (flat encN l)
theorem OwnN.ext {w W W' : World} {v : Value} {l : List Nd} (h : OwnN w W v l) (hx : Ext W W') : OwnN w W' v l := OwnG.ext h hx
theorem OwnN.down {w0 w W : World} {v : Value} {l : List Nd} (h : OwnN w W v l) (hx : Ext w0 w) : OwnN w0 W v l := OwnG.down h hx
theorem OwnN.lt {w W : World} {v : Value} {l : List Nd} (h : OwnN w W v l) : ∀ k, v.ownBlock = some k → w.heap.size ≤ k ∧ k < W.heap.size := World.ownsRow.lt h
theorem OwnN.open {w W : World} {v : Value} {l : List Nd} (h : OwnN w W v l) : ∃ A c, v = .slice A l.length c ∧ l.length ≤ c ∧ NdS W A l := by
  obtain ⟨A, c, rfl, hc⟩ := OwnG.form h
  exact ⟨A, c, rfl, hc, OwnG.row h⟩
theorem OwnN.kept {w W W' : World} {v : Value} {l : List Nd} {row : Option Nat} (h : OwnN w W v l) (hg : W.grownBy W' row) (hn : v.ownBlock = none ∨ v.ownBlock ≠ row) : OwnN w W' v l := World.ownsRow.kept h hg hn

/-- the numbers of these items' Ids -/
def numG (k : Nat) : List It → List (I2 × Value)
  | [] => []
  | x :: l => (iid x, .int .i64 (k : Int)) :: numG (k + 1) l
def numM (l : List It) : List (I2 × Value) := numG 1 l
theorem numG_snoc (x : It) : ∀ (l : List It) (k : Nat), numG k (l ++ [x]) = numG k l ++ [(iid x, .int .i64 ((k + l.length : Nat) : Int))]
  | [], k => by simp [numG]
  | y :: l, k => by
    rw [List.cons_append, numG, numG, numG_snoc x l, List.cons_append, List.length_cons, show k + 1 + l.length = k + (l.length + 1) by omega]
theorem numM_snoc (l : List It) (x : It) : numM (l ++ [x]) = numM l ++ [((x.c, x.k), .int .i64 ((l.length + 1 : Nat) : Int))] := by
  unfold numM
  rw [numG_snoc, Nat.add_comm]; rfl
theorem numG_lkp (a : I2) : ∀ (l : List It) (k : Nat), lkp (numG k l) a = (fnd l a).map fun i => .int .i64 ((k + i : Nat) : Int)
  | [], k => rfl
  | y :: l, k => by
    rw [numG, lkp, fnd, numG_lkp a l]
    by_cases h : iid y = a
    · simp [h]
    · simp only [h, if_false]
      cases fnd l a with
      | none => rfl
      | some i => simp only [Option.map_some, show k + 1 + i = k + (i + 1) by omega]
theorem numM_get (l : List It) (a : I2) : (lkp (numM l) a).getD (.int .i64 0) = .int .i64 (numI l a : Int) := by
  unfold numM numI
  rw [numG_lkp]
  cases fnd l a with
  | none => rfl
  | some i => simp only [Option.map_some, Option.getD_some, Nat.add_comm]
theorem numM_none {l : List It} {a : I2} (h : hasI l a = false) : lkp (numM l) a = none := by
  unfold numM
  rw [numG_lkp, fnd_none.2 h]; rfl
theorem zeroI (w : World) : (zeroValue 3).run Try.prog w = .ok (.int .i64 0) w := by kernel_rfl
theorem MapS.num {w : World} {b : Nat} {l : List It} (h : MapS w b (numM l)) (a c : Int) : (Instr.lookup 59 (.map (some b)) (.agg #[.int .u32 a, .int .u32 c]) false).run Try.prog w = .ok (.int .i64 (numI l (a, c) : Int)) w := by
  have := h.look Try.underlying59 (a, c) (.int .i64 0) (zeroI w)
  rw [numM_get] at this
  exact this

/-- what is grown of these items stands there -/
structure GrS (W : World) (g : Nat) (l : List It) (ns : List Nd) : Prop where
  ok : GrN l ns
  kn : knownI l = true
  cells : ∃ b o cap mb, W.cell? ⟨g, 0, none⟩ = some (.slice (some ⟨b, o, none⟩) (l.length + 1) cap) ∧ W.cell? ⟨g, 1, none⟩ = some (.map (some mb)) ∧ l.length + 1 ≤ cap ∧ NdS W (some ⟨b, o, none⟩) ns ∧ MapS W mb (numM l)
theorem GrS.ext {W W' : World} {g : Nat} {l : List It} {ns : List Nd} (h : GrS W g l ns) (hx : Ext W W') : GrS W' g l ns := by
  obtain ⟨b, o, cap, mb, h1, h2, h3, h4, h5⟩ := h.cells
  exact ⟨h.ok, h.kn, b, o, cap, mb, hx.keep h1, hx.keep h2, h3, h4.ext hx, h5.ext hx⟩

/-- its nodes alone -/
structure GrT (W : World) (g : Nat) (l : List It) (ns : List Nd) : Prop where
  ok : GrN l ns
  kn : knownI l = true
  cells : ∃ b o cap, W.cell? ⟨g, 0, none⟩ = some (.slice (some ⟨b, o, none⟩) (l.length + 1) cap) ∧ l.length + 1 ≤ cap ∧ NdS W (some ⟨b, o, none⟩) ns
theorem GrS.nodes {W : World} {g : Nat} {l : List It} {ns : List Nd} (h : GrS W g l ns) : GrT W g l ns := by
  obtain ⟨b, o, cap, mb, h1, h2, h3, h4, h5⟩ := h.cells
  exact ⟨h.ok, h.kn, b, o, cap, h1, h3, h4⟩
theorem GrT.ext {W W' : World} {g : Nat} {l : List It} {ns : List Nd} (h : GrT W g l ns) (hx : Ext W W') : GrT W' g l ns := by
  obtain ⟨b, o, cap, h1, h3, h4⟩ := h.cells
  exact ⟨h.ok, h.kn, b, o, cap, hx.keep h1, h3, h4.ext hx⟩

theorem take_pre {P q : Pth} {d : Nat} (h : d ≤ P.length) : (P ++ q).take d = P.take d := by
  rw [List.take_append, show d - P.length = 0 by omega, List.take_zero, List.append_nil]

set_option maxRecDepth 100000 in
set_option maxHeartbeats 4000000 in
theorem upTo_any (g : Nat) (l : List It) (ns : List Nd) (n d : Nat) (w : World) (h : GrS w g l ns) (hn : n ≤ l.length) (hd : d ≤ (pthN l n).length) (hb : l.length ≤ 1000000000000000) :
    Calls Try.prog 32 #[.pointer (some ⟨g, 0, none⟩), Vi (n : Int), Vi (d : Int)] w fun e w' => ∃ m : Nat, e = .returned (Vi (m : Int)) ∧ m ≤ l.length ∧ pthN l m = (pthN l n).take d ∧ Ext w w' := by
  obtain ⟨b, o, cap, mb, g0, g1, hcap, hN, hM⟩ := h.cells
  have hok := Lib.hid h.ok
  replace hN := Lib.hid hN
  have hd0 := Lib.hid hd
  obtain ⟨N, hNn⟩ : ∃ N, l.length + 1 = N := ⟨_, rfl⟩
  rw [hNn] at g0
  replace hNn := Lib.hid hNn
  clear h hM g1 hcap hd
  go_enter Try.func32, Try.ntmps32
  go_wp2
  go_loopw [1, 7] (fun i _ W => ∃ (m : Nat), m ≤ l.length ∧ i = Vi (m : Int) ∧ Hid (d ≤ (pthN l m).length ∧ (pthN l m).take d = (pthN l n).take d) ∧ W = w) (fun i _ _ => (pthN l (intOf i).toNat).length)
  case atStart => exact ⟨n, hn, rfl, Lib.hid ⟨hd0.out, rfl⟩, rfl⟩
  case round =>
    obtain ⟨m, hm, rfl, hp, rfl⟩ := hrel
    obtain ⟨nd, hnd⟩ := hok.out.get hm
    obtain ⟨d1, d2, d3, q, d4, d5⟩ := hok.out.deep m nd hnd
    have d6 := hok.out.up m nd hnd
    have hi1 : (0 : Int) ≤ (m : Int) := by omega
    have hi2 : (m : Int) < (N : Int) := by have := hNn.out; omega
    obtain ⟨c0, c1, c2, c3, c4, c5⟩ := hN.out.at hnd
    by_cases hlt : d < nd.depth
    · have hlt' : (d : Int) < (nd.depth : Int) := by omega
      have hm0 : 0 < m := by
        rcases Nat.eq_zero_or_pos m with e | e
        · subst e; rw [d1] at hlt; simp [pthN_zero] at hlt
        · exact e
      obtain ⟨fd, hfd⟩ := hok.out.get d3
      obtain ⟨f1, _⟩ := hok.out.deep _ _ hfd
      obtain ⟨_, _, _, _, e4, _⟩ := hN.out.at hfd
      have hj1 : (0 : Int) ≤ (nd.far : Int) := by omega
      have hj2 : (nd.far : Int) < (N : Int) := by have := hNn.out; omega
      by_cases h2 : d ≤ fd.depth
      · have h2' : (d : Int) ≤ (fd.depth : Int) := by omega
        have hr := Lib.hid (show d ≤ (pthN l nd.far).length ∧ (pthN l nd.far).take d = (pthN l n).take d by
          refine ⟨by omega, ?_⟩
          rw [← hp.out.2, d4, take_pre (by omega)])
        have hms := Lib.hid (show (pthN l nd.far).length < (pthN l m).length by
          rw [d4, List.length_append]
          have := List.length_pos_iff.2 (d5 hm0)
          omega)
        clear hp d1 d4 d5 d6 f1 hnd hfd hlt h2
        go_wp2
        go_roundw
        case rel => exact ⟨nd.far, d3, rfl, hr, trivial⟩
        case measure => simpa [intOf] using hms.out
      · have h2' : ¬ (d : Int) ≤ (fd.depth : Int) := by omega
        have hup := d6 hm0
        have hr := Lib.hid (show d ≤ (pthN l nd.on).length ∧ (pthN l nd.on).take d = (pthN l n).take d by
          have : d ≤ (pthN l nd.on).length := by
            rw [hup] at d1
            simp at d1
            omega
          refine ⟨this, ?_⟩
          rw [← hp.out.2, hup, take_pre this])
        have hms := Lib.hid (show (pthN l nd.on).length < (pthN l m).length by
          rw [hup, List.length_append]; simp)
        clear hp d1 d4 d5 d6 f1 hnd hfd hlt h2 hup
        go_wp2
        go_roundw
        case rel => exact ⟨nd.on, d2, rfl, hr, trivial⟩
        case measure => simpa [intOf] using hms.out
    · have hlt' : ¬ (d : Int) < (nd.depth : Int) := by omega
      have hr := Lib.hid (show pthN l m = (pthN l n).take d by
        rw [← hp.out.2, List.take_of_length_le (by omega)])
      clear hp d1 d4 d5 d6 hnd hlt
      go_wp2
      go_ret
      exact ⟨m, rfl, hm, hr.out, Ext.refl _⟩

theorem w64_in {n : Int} (h0 : -9223372036854775808 ≤ n) (h1 : n ≤ 9223372036854775807) : wrap64 n = n := by rw [← IntWalk.i64_left]; exact IntWalk.i64_in n ⟨h0, h1⟩
set_option maxRecDepth 100000 in
set_option maxHeartbeats 4000000 in
theorem farFrom_any (g : Nat) (l : List It) (ns : List Nd) (n : Nat) (w : World) (h : GrT w g l ns) (hn : n ≤ l.length) (hb : l.length ≤ 1000000000000000) :
    Calls Try.prog 34 #[.pointer (some ⟨g, 0, none⟩), Vi (n : Int)] w fun e w' => e = .returned (Vi (farF ns n : Int)) ∧ Ext w w' := by
  obtain ⟨b, o, cap, g0, hcap, hN⟩ := h.cells
  have hok := h.ok
  obtain ⟨N, hNn⟩ : ∃ N, l.length + 1 = N := ⟨_, rfl⟩
  rw [hNn] at g0
  obtain ⟨nd, hnd⟩ := hok.get hn
  obtain ⟨d1, d2, d3, _⟩ := hok.deep n nd hnd
  obtain ⟨fd, hfd⟩ := hok.get d3
  obtain ⟨f1, f2, f3, _⟩ := hok.deep _ fd hfd
  obtain ⟨ed, hed⟩ := hok.get f3
  obtain ⟨e1, _⟩ := hok.deep _ ed hed
  have b1 := pth_len_le h.kn hn
  have b2 := pth_len_le h.kn d3
  have b3 := pth_len_le h.kn f3
  obtain ⟨c0, c1, c2, c3, c4, c5⟩ := hN.at hnd
  obtain ⟨k0, k1, k2, k3, k4, k5⟩ := hN.at hfd
  obtain ⟨m0, m1, m2, m3, m4, m5⟩ := hN.at hed
  have hi1 : (0 : Int) ≤ (n : Int) := by omega
  have hi2 : (n : Int) < (N : Int) := by omega
  have hj1 : (0 : Int) ≤ (nd.far : Int) := by omega
  have hj2 : (nd.far : Int) < (N : Int) := by omega
  have hl1 : (0 : Int) ≤ (fd.far : Int) := by omega
  have hl2 : (fd.far : Int) < (N : Int) := by omega
  have hA : farF ns n = if ((nd.depth : Int) - fd.depth = (fd.depth : Int) - ed.depth) then fd.far else n := by
    unfold farF
    simp only [getD_of hnd, getD_of hfd, getD_of hed]
  have z1 : wrap64 ((nd.depth : Int) - fd.depth) = (nd.depth : Int) - fd.depth := w64_in (by omega) (by omega)
  have z2 : wrap64 ((fd.depth : Int) - ed.depth) = (fd.depth : Int) - ed.depth := w64_in (by omega) (by omega)
  rw [hA]
  clear hA d1 d2 d3 f1 f2 f3 e1 hN hok hnd hfd hed h hcap b1 b2 b3 hn
  by_cases hc : (nd.depth : Int) - fd.depth = (fd.depth : Int) - ed.depth
  · rw [if_pos hc]
    have hc' : ((nd.depth : Int) - fd.depth == (fd.depth : Int) - ed.depth) = true := by rw [beq_iff_eq]; exact hc
    replace hc := Lib.hid hc
    go_enter Try.func34, Try.ntmps34
    go_wp2
    go_quiet (fail)
    go_wp2
    go_ret
    exact ⟨rfl, (Ext.refl _).drewN _⟩
  · rw [if_neg hc]
    have hc' : ((nd.depth : Int) - fd.depth == (fd.depth : Int) - ed.depth) = false := by rw [beq_eq_false_iff_ne]; exact hc
    replace hc := Lib.hid hc
    go_enter Try.func34, Try.ntmps34
    go_wp2
    go_quiet (fail)
    go_wp2
    go_ret
    exact ⟨rfl, (Ext.refl _).drewN _⟩

end Go.Proofs.Ytnocdfmmhnnbeaa

namespace Go.Proofs.Ytnocdfmmhnnbeaa
open Go.ChangeShapes Go.WideShapes Go.ChangeAt Go.RowKit Go.Sort
set_option linter.unusedVariables false
set_option linter.unusedSimpArgs false
attribute [local go_sem] World.cell?_alloc_some

theorem pthN_num_len {l : List It} (h : knownI l = true) (a : I2) : (pthN l (numI l a)).length = (pth l a).length := by rw [pthN_num h]
theorem num_eq {l : List It} (h : knownI l = true) {m : Nat} {b : I2} (hm : m ≤ l.length) (hb : hasI l b = true) (e : pthN l m = pth l b) : m = numI l b := by
  obtain ⟨sb, pb, eb, _⟩ := pth_ends h b hb
  obtain ⟨i, hi⟩ := fnd_has hb
  rw [numI_at hi]
  cases m with
  | zero => rw [pthN_zero, eb] at e; simp at e
  | succ j =>
    obtain ⟨y, hy⟩ : ∃ y, l[j]? = some y := ⟨l[j], List.getElem?_eq_getElem (by omega)⟩
    rw [pthN_at hy] at e
    have hy' : hasI l (iid y) = true := has_iffI.2 ⟨y, List.mem_of_getElem? hy, rfl⟩
    have e2 := pth_inj h hy' hb e
    obtain ⟨z, hz, ez⟩ := fnd_some hi
    rw [id_once h hy hz (e2.trans ez.symm)]

set_option maxRecDepth 100000 in
set_option maxHeartbeats 4000000 in
theorem below_any (g : Nat) (l : List It) (ns : List Nd) (a1 a2 b1 b2 : Int) (w : World) (h : GrS w g l ns) (ha : hasI l (a1, a2) = true) (hbb : hasI l (b1, b2) = true) (hb : l.length ≤ 1000000000000000) :
    Calls Try.prog 26 #[.pointer (some ⟨g, 0, none⟩), idv a1 a2, idv b1 b2] w fun e w' => e = .returned (.bool (blwP l (paths l) (a1, a2) (b1, b2))) ∧ Ext w w' := by
  rw [below_is h.kn ha hbb]
  have h2 := h
  obtain ⟨b, o, cap, mb, g0, g1, hcap, hN, hM⟩ := h.cells
  have hok := h.ok
  obtain ⟨N, hNn⟩ : ∃ N, l.length + 1 = N := ⟨_, rfl⟩
  rw [hNn] at g0
  have hlk1 := Lib.hid (fun W (hW : Ext w W) => (hM.ext hW).num a1 a2)
  have hlk2 := Lib.hid (fun W (hW : Ext w W) => (hM.ext hW).num b1 b2)
  have hna := numI_le l (a1, a2)
  have hnb := numI_le l (b1, b2)
  obtain ⟨nd, hnd⟩ := hok.get hna
  obtain ⟨d1, _⟩ := hok.deep _ nd hnd
  obtain ⟨td, htd⟩ := hok.get hnb
  obtain ⟨t1, _⟩ := hok.deep _ td htd
  rw [pthN_num h2.kn] at d1 t1
  rw [← d1, ← t1]
  have hup := Lib.hid (fun W (hW : Ext w W) (hd : td.depth ≤ nd.depth) => upTo_any g l ns (numI l (a1, a2)) td.depth W (h2.ext hW) hna (by rw [pthN_num h2.kn, ← d1]; exact hd) hb)
  have hfin := Lib.hid (fun (m : Nat) (hm : m ≤ l.length) (e : pthN l m = (pthN l (numI l (a1, a2))).take td.depth) => show decide ((m : Int) = (numI l (b1, b2) : Int)) = decide ((pth l (a1, a2)).take td.depth = pth l (b1, b2)) by
    rw [pthN_num h2.kn] at e
    rw [← e]
    by_cases hc : pthN l m = pth l (b1, b2)
    · rw [decide_eq_true hc, num_eq h2.kn hm hbb hc]; simp
    · rw [decide_eq_false hc, decide_eq_false]
      intro e2
      have e3 : m = numI l (b1, b2) := by omega
      exact hc (by rw [e3, pthN_num h2.kn]))
  have hi1 : (0 : Int) ≤ (numI l (a1, a2) : Int) := by omega
  have hi2 : (numI l (a1, a2) : Int) < (N : Int) := by omega
  have hj1 : (0 : Int) ≤ (numI l (b1, b2) : Int) := by omega
  have hj2 : (numI l (b1, b2) : Int) < (N : Int) := by omega
  have hnN := Lib.hid (hN.at hnd)
  have htN := Lib.hid (hN.at htd)
  clear hN hM hok hnd htd d1 t1 hna hnb h h2 hcap ha hbb hb
  generalize pth l (a1, a2) = P at *
  generalize pth l (b1, b2) = Q at *
  generalize numI l (a1, a2) = na at *
  generalize numI l (b1, b2) = nb at *
  have x0 := ((Ext.refl w).alloc (.cells #[.int .u32 a1, .int .u32 a2] 25)).alloc (.cells #[.int .u32 b1, .int .u32 b2] 25)
  have q0 := x0.keep g0
  have q1 := x0.keep g1
  obtain ⟨c0, c1, c2, c3, c4, c5⟩ := hnN.out.ext x0
  obtain ⟨e0, e1, e2, e3, e4, e5⟩ := htN.out.ext x0
  have l1 := fun k => hlk1.out (World.drewN ((w.alloc (.cells #[.int .u32 a1, .int .u32 a2] 25)).alloc (.cells #[.int .u32 b1, .int .u32 b2] 25)) k) (x0.drewN k)
  have l2 := fun k => hlk2.out (World.drewN ((w.alloc (.cells #[.int .u32 a1, .int .u32 a2] 25)).alloc (.cells #[.int .u32 b1, .int .u32 b2] 25)) k) (x0.drewN k)
  have a0 : ((w.alloc (.cells #[.int .u32 a1, .int .u32 a2] 25)).alloc (.cells #[.int .u32 b1, .int .u32 b2] 25)).cell? ⟨w.heap.size, 0, none⟩ = some (Vu a1) := by simp [go_sem]
  have a0' : ((w.alloc (.cells #[.int .u32 a1, .int .u32 a2] 25)).alloc (.cells #[.int .u32 b1, .int .u32 b2] 25)).cell? ⟨w.heap.size, 1, none⟩ = some (Vu a2) := by simp [go_sem]
  have a1' : ((w.alloc (.cells #[.int .u32 a1, .int .u32 a2] 25)).alloc (.cells #[.int .u32 b1, .int .u32 b2] 25)).cell? ⟨w.heap.size + 1, 0, none⟩ = some (Vu b1) := by simp [go_sem]
  have a1'' : ((w.alloc (.cells #[.int .u32 a1, .int .u32 a2] 25)).alloc (.cells #[.int .u32 b1, .int .u32 b2] 25)).cell? ⟨w.heap.size + 1, 1, none⟩ = some (Vu b2) := by simp [go_sem]
  have hE := Lib.hid x0
  clear g0 g1 x0 hlk1 hlk2 hnN htN
  by_cases hlt : td.depth < nd.depth
  · have hlt' : ¬ (nd.depth : Int) ≤ (td.depth : Int) := by omega
    have hle : td.depth ≤ nd.depth := by omega
    rw [decide_eq_true hlt, Bool.true_and]
    obtain ⟨B, hB⟩ : ∃ B, decide (P.take td.depth = Q) = B := ⟨_, rfl⟩
    rw [hB]
    replace hB := Lib.hid hB
    replace hlt := Lib.hid hlt
    replace hle := Lib.hid hle
    go_enter Try.func26, Try.ntmps26
    go_wp2
    generalize (w.alloc (.cells #[.int .u32 a1, .int .u32 a2] 25)).alloc (.cells #[.int .u32 b1, .int .u32 b2] 25) = w0 at *
    generalize w.heap.size = pa at *
    go_quiet (fail)
    go_wp2
    go_quiet (fail)
    go_wp2_with fail
    refine (hup.out _ (hE.out.drewN _) hle.out).mono ?_
    rintro e w1 ⟨m, rfl, hm, hpm, x1⟩
    have hq := hfin.out m hm hpm
    have xe := Lib.hid ((hE.out.drewN _).trans x1)
    rw [hB.out] at hq
    clear x1 hpm hm hup hfin hB
    cases B with
    | true =>
      have hq' : ((m : Int) == (nb : Int)) = true := by simpa using hq
      go_wp2
      go_ret
      exact ⟨rfl, xe.out⟩
    | false =>
      have hq' : ((m : Int) == (nb : Int)) = false := by simpa using hq
      go_wp2
      go_ret
      exact ⟨rfl, xe.out⟩
  · have hlt' : (nd.depth : Int) ≤ (td.depth : Int) := by omega
    rw [decide_eq_false hlt, Bool.false_and]
    replace hlt := Lib.hid hlt
    clear hup hfin
    go_enter Try.func26, Try.ntmps26
    go_wp2
    generalize (w.alloc (.cells #[.int .u32 a1, .int .u32 a2] 25)).alloc (.cells #[.int .u32 b1, .int .u32 b2] 25) = w0 at *
    generalize w.heap.size = pa at *
    go_quiet (fail)
    go_wp2
    go_quiet (fail)
    go_wp2
    go_ret
    exact ⟨rfl, by first | exact hE.out.drewN _ | exact (hE.out.drewN _).drewN _⟩

end Go.Proofs.Ytnocdfmmhnnbeaa

namespace Go.Proofs.Ytnocdfmmhnnbeaa
open Go.ChangeShapes Go.WideShapes Go.ChangeAt Go.RowKit Go.Sort
set_option linter.unusedVariables false
set_option linter.unusedSimpArgs false
attribute [local go_sem] World.cell?_alloc_some

/-- a block that holds on what one hangs -/
def HtIs (W : World) (q : Nat) (x : Hg) : Prop := W.heap[q]? = some (.cells #[Vu x.on.1, Vu x.on.2, .bool x.right] 35 (0, 0))
theorem HtIs.ext {W W' : World} {q : Nat} {x : Hg} (h : HtIs W q x) (hx : Ext W W') : HtIs W' q x := by
  unfold HtIs at h ⊢
  rw [RowKit.Below.block hx q (Array.getElem?_eq_some_iff.1 h).1]; exact h
theorem HtIs.store {W : World} {q : Nat} {x : Hg} (h : HtIs W q x) (a b : Int) (r : Bool) : HtIs (((W.setCell ⟨q, 0, none⟩ (Vu a)).setCell ⟨q, 1, none⟩ (Vu b)).setCell ⟨q, 2, none⟩ (.bool r)) q ⟨(a, b), r⟩ :=
  heap_setCell_same _ _ 2 _ _ _ (heap_setCell_same _ _ 1 _ _ _ (heap_setCell_same _ _ 0 _ _ _ h))
theorem HtIs.cells {W : World} {q : Nat} {x : Hg} (h : HtIs W q x) : W.cell? ⟨q, 0, none⟩ = some (Vu x.on.1) ∧ W.cell? ⟨q, 1, none⟩ = some (Vu x.on.2) ∧ W.cell? ⟨q, 2, none⟩ = some (.bool x.right) :=
  ⟨by rw [cell_of_row W q 0 _ _ _ h]; rfl, by rw [cell_of_row W q 1 _ _ _ h]; rfl, by rw [cell_of_row W q 2 _ _ _ h]; rfl⟩
theorem HtIs.thaw {W : World} {q : Nat} {x : Hg} (h : HtIs W q x) (o : Nat) : W.frozen? ⟨q, o, none⟩ = false := frozen_of_row W q o _ _ h
theorem HtIs.lt {W : World} {q : Nat} {x : Hg} (h : HtIs W q x) : q < W.heap.size := (Array.getElem?_eq_some_iff.1 h).1
theorem HtIs.new (W : World) (a b : Int) (r : Bool) : HtIs (W.alloc (.cells #[.int .u32 a, .int .u32 b, .bool r] 35)) W.heap.size ⟨(a, b), r⟩ := heap_alloc_new W _
theorem hgP_stay {l : List It} {x : It} (hr : x.rc = 0) : hgP l x = if x.lc = 0 then ⟨(0, 0), true⟩ else ⟨(x.lc, x.lk), true⟩ := by
  unfold hgP plcP
  rw [if_neg (fun e => e.1 hr)]
  split <;> rfl
theorem hgP_root {l : List It} {x : It} (hr : x.rc ≠ 0) (hl : x.lc = 0) : hgP l x = ⟨(x.rc, x.rk), false⟩ := by
  unfold hgP plcP
  rw [if_pos ⟨hr, by unfold blwP ilf; simp [hl]⟩]
  rfl
theorem hgP_both {l : List It} {x : It} (hr : x.rc ≠ 0) (hl : x.lc ≠ 0) : hgP l x = if blwP l (paths l) (irt x) (ilf x) = true then ⟨(x.rc, x.rk), false⟩ else ⟨(x.lc, x.lk), true⟩ := by
  unfold hgP plcP
  by_cases hb : blwP l (paths l) (irt x) (ilf x) = true
  · rw [if_pos ⟨hr, hb⟩, if_pos hb]; rfl
  · rw [if_neg (fun e => hb e.2), if_neg hb, if_neg hl]; rfl

set_option maxRecDepth 100000 in
set_option maxHeartbeats 4000000 in
theorem hang_m (g : Nat) (l : List It) (x : It) (w : World)
    (hcall : x.rc ≠ 0 → x.lc ≠ 0 → ∀ W, Ext w W → Calls Try.prog 26 #[.pointer (some ⟨g, 0, none⟩), idv x.rc x.rk, idv x.lc x.lk] W fun e w' => e = .returned (.bool (blwP l (paths l) (irt x) (ilf x))) ∧ Ext W w') :
    Calls Try.prog 24 #[itv x, .func (.func 26) #[.pointer (some ⟨g, 0, none⟩)] #[]] w fun e w' => e = .returned (hgv (hgP l x)) ∧ Ext w w' := by
  obtain ⟨R, hR⟩ : ∃ R, hgP l x = R := ⟨_, rfl⟩
  rw [hR]
  by_cases e0 : x.rc = 0
  · have g0 : (x.rc == 0) = true := by simpa using e0
    rw [hgP_stay e0] at hR
    by_cases e1 : x.lc = 0
    · have g1 : (x.lc == 0) = true := by simpa using e1
      rw [if_pos e1] at hR
      replace hR := Lib.hid hR.symm
      clear e0 e1 hcall
      go_enter Try.func24, Try.ntmps24
      go_wp2_with fail
      refine (none_any _ _ _).mono ?_
      rintro e w1 ⟨rfl, x1⟩
      have b0 : HtIs w1 (w.heap.size + 1) ⟨(0, 0), false⟩ := by
        have := HtIs.new (w.alloc (.cells #[.int .u32 x.c, .int .u32 x.k, .int .u32 x.lc, .int .u32 x.lk, .int .u32 x.rc, .int .u32 x.rk, .int .i32 x.ch] 27)) 0 0 false
        rw [show (w.alloc (.cells #[.int .u32 x.c, .int .u32 x.k, .int .u32 x.lc, .int .u32 x.lk, .int .u32 x.rc, .int .u32 x.rk, .int .i32 x.ch] 27)).heap.size = w.heap.size + 1 by simp] at this
        exact this.ext x1
      have a2 := x1.keep (p := ⟨w.heap.size, 2, none⟩) (v := Vu x.lc) (by simp [go_sem])
      have a3 := x1.keep (p := ⟨w.heap.size, 3, none⟩) (v := Vu x.lk) (by simp [go_sem])
      have a4 := x1.keep (p := ⟨w.heap.size, 4, none⟩) (v := Vu x.rc) (by simp [go_sem])
      have a5 := x1.keep (p := ⟨w.heap.size, 5, none⟩) (v := Vu x.rk) (by simp [go_sem])
      have xw : Ext w w1 := (((Ext.refl _).alloc _).alloc _).trans x1
      clear x1
      have hwb : w.heap.size ≤ w.heap.size + 1 := by omega
      obtain ⟨pb, hpb⟩ : ∃ pb, w.heap.size + 1 = pb := ⟨_, rfl⟩
      obtain ⟨pa, hpa⟩ : ∃ pa, w.heap.size = pa := ⟨_, rfl⟩
      rw [hpb] at b0 hwb ⊢
      rw [hpa] at a2 a3 a4 a5 ⊢
      clear hpa hpb
      replace b0 := Lib.hid b0
      go_wp2_with fail
      refine (none_any _ _ _).mono ?_
      rintro e w2 ⟨rfl, x2⟩
      replace xw := xw.trans x2
      replace b0 := Lib.hid (b0.out.ext x2)
      replace a2 := x2.keep a2
      replace a3 := x2.keep a3
      replace a4 := x2.keep a4
      replace a5 := x2.keep a5
      clear x2
      obtain ⟨k0, k1, k2⟩ := b0.out.cells
      have f0 := b0.out.thaw 0
      have f1 := b0.out.thaw 1
      have f2 := b0.out.thaw 2
      obtain ⟨z0, z1, z2⟩ := (b0.out.store 0 0 true).cells
      go_wp2
      exact bodyPost_ret (v := hgv ⟨(0, 0), true⟩) (by simp [results, Try.results24, go_sem, z0, z1, z2]) rfl ⟨by rw [hR.out], ((xw.setCell hwb _).setCell hwb _).setCell hwb _⟩
    · have g1 : (x.lc == 0) = false := by simpa using e1
      rw [if_neg e1] at hR
      replace hR := Lib.hid hR.symm
      clear e0 e1 hcall
      go_enter Try.func24, Try.ntmps24
      go_wp2_with fail
      refine (none_any _ _ _).mono ?_
      rintro e w1 ⟨rfl, x1⟩
      have b0 : HtIs w1 (w.heap.size + 1) ⟨(0, 0), false⟩ := by
        have := HtIs.new (w.alloc (.cells #[.int .u32 x.c, .int .u32 x.k, .int .u32 x.lc, .int .u32 x.lk, .int .u32 x.rc, .int .u32 x.rk, .int .i32 x.ch] 27)) 0 0 false
        rw [show (w.alloc (.cells #[.int .u32 x.c, .int .u32 x.k, .int .u32 x.lc, .int .u32 x.lk, .int .u32 x.rc, .int .u32 x.rk, .int .i32 x.ch] 27)).heap.size = w.heap.size + 1 by simp] at this
        exact this.ext x1
      have a2 := x1.keep (p := ⟨w.heap.size, 2, none⟩) (v := Vu x.lc) (by simp [go_sem])
      have a3 := x1.keep (p := ⟨w.heap.size, 3, none⟩) (v := Vu x.lk) (by simp [go_sem])
      have a4 := x1.keep (p := ⟨w.heap.size, 4, none⟩) (v := Vu x.rc) (by simp [go_sem])
      have a5 := x1.keep (p := ⟨w.heap.size, 5, none⟩) (v := Vu x.rk) (by simp [go_sem])
      have xw : Ext w w1 := (((Ext.refl _).alloc _).alloc _).trans x1
      clear x1
      have hwb : w.heap.size ≤ w.heap.size + 1 := by omega
      obtain ⟨pb, hpb⟩ : ∃ pb, w.heap.size + 1 = pb := ⟨_, rfl⟩
      obtain ⟨pa, hpa⟩ : ∃ pa, w.heap.size = pa := ⟨_, rfl⟩
      rw [hpb] at b0 hwb ⊢
      rw [hpa] at a2 a3 a4 a5 ⊢
      clear hpa hpb
      replace b0 := Lib.hid b0
      go_wp2_with fail
      refine (none_any _ _ _).mono ?_
      rintro e w2 ⟨rfl, x2⟩
      replace xw := xw.trans x2
      replace b0 := Lib.hid (b0.out.ext x2)
      replace a2 := x2.keep a2
      replace a3 := x2.keep a3
      replace a4 := x2.keep a4
      replace a5 := x2.keep a5
      clear x2
      obtain ⟨k0, k1, k2⟩ := b0.out.cells
      have f0 := b0.out.thaw 0
      have f1 := b0.out.thaw 1
      have f2 := b0.out.thaw 2
      obtain ⟨z0, z1, z2⟩ := (b0.out.store x.lc x.lk true).cells
      go_wp2
      exact bodyPost_ret (v := hgv ⟨(x.lc, x.lk), true⟩) (by simp [results, Try.results24, go_sem, z0, z1, z2]) rfl ⟨by rw [hR.out], ((xw.setCell hwb _).setCell hwb _).setCell hwb _⟩
  · have g0 : (x.rc == 0) = false := by simpa using e0
    by_cases e1 : x.lc = 0
    · have g1 : (x.lc == 0) = true := by simpa using e1
      rw [hgP_root e0 e1] at hR
      replace hR := Lib.hid hR.symm
      clear e0 e1 hcall
      go_enter Try.func24, Try.ntmps24
      go_wp2_with fail
      refine (none_any _ _ _).mono ?_
      rintro e w1 ⟨rfl, x1⟩
      have b0 : HtIs w1 (w.heap.size + 1) ⟨(0, 0), false⟩ := by
        have := HtIs.new (w.alloc (.cells #[.int .u32 x.c, .int .u32 x.k, .int .u32 x.lc, .int .u32 x.lk, .int .u32 x.rc, .int .u32 x.rk, .int .i32 x.ch] 27)) 0 0 false
        rw [show (w.alloc (.cells #[.int .u32 x.c, .int .u32 x.k, .int .u32 x.lc, .int .u32 x.lk, .int .u32 x.rc, .int .u32 x.rk, .int .i32 x.ch] 27)).heap.size = w.heap.size + 1 by simp] at this
        exact this.ext x1
      have a2 := x1.keep (p := ⟨w.heap.size, 2, none⟩) (v := Vu x.lc) (by simp [go_sem])
      have a3 := x1.keep (p := ⟨w.heap.size, 3, none⟩) (v := Vu x.lk) (by simp [go_sem])
      have a4 := x1.keep (p := ⟨w.heap.size, 4, none⟩) (v := Vu x.rc) (by simp [go_sem])
      have a5 := x1.keep (p := ⟨w.heap.size, 5, none⟩) (v := Vu x.rk) (by simp [go_sem])
      have xw : Ext w w1 := (((Ext.refl _).alloc _).alloc _).trans x1
      clear x1
      have hwb : w.heap.size ≤ w.heap.size + 1 := by omega
      obtain ⟨pb, hpb⟩ : ∃ pb, w.heap.size + 1 = pb := ⟨_, rfl⟩
      obtain ⟨pa, hpa⟩ : ∃ pa, w.heap.size = pa := ⟨_, rfl⟩
      rw [hpb] at b0 hwb ⊢
      rw [hpa] at a2 a3 a4 a5 ⊢
      clear hpa hpb
      replace b0 := Lib.hid b0
      go_wp2_with fail
      refine (none_any _ _ _).mono ?_
      rintro e w2 ⟨rfl, x2⟩
      replace xw := xw.trans x2
      replace b0 := Lib.hid (b0.out.ext x2)
      replace a2 := x2.keep a2
      replace a3 := x2.keep a3
      replace a4 := x2.keep a4
      replace a5 := x2.keep a5
      clear x2
      obtain ⟨k0, k1, k2⟩ := b0.out.cells
      have f0 := b0.out.thaw 0
      have f1 := b0.out.thaw 1
      have f2 := b0.out.thaw 2
      obtain ⟨z0, z1, z2⟩ := (b0.out.store x.rc x.rk false).cells
      go_wp2
      exact bodyPost_ret (v := hgv ⟨(x.rc, x.rk), false⟩) (by simp [results, Try.results24, go_sem, z0, z1, z2]) rfl ⟨by rw [hR.out], ((xw.setCell hwb _).setCell hwb _).setCell hwb _⟩
    · have g1 : (x.lc == 0) = false := by simpa using e1
      rw [hgP_both e0 e1] at hR
      have hc := Lib.hid (hcall e0 e1)
      clear e0 e1 hcall
      cases hB : blwP l (paths l) (irt x) (ilf x) with
      | true =>
        rw [hB] at hc hR
        rw [if_pos rfl] at hR
        replace hR := Lib.hid hR.symm
        clear hB
        go_enter Try.func24, Try.ntmps24
        go_wp2_with fail
        refine (none_any _ _ _).mono ?_
        rintro e w1 ⟨rfl, x1⟩
        have b0 : HtIs w1 (w.heap.size + 1) ⟨(0, 0), false⟩ := by
          have := HtIs.new (w.alloc (.cells #[.int .u32 x.c, .int .u32 x.k, .int .u32 x.lc, .int .u32 x.lk, .int .u32 x.rc, .int .u32 x.rk, .int .i32 x.ch] 27)) 0 0 false
          rw [show (w.alloc (.cells #[.int .u32 x.c, .int .u32 x.k, .int .u32 x.lc, .int .u32 x.lk, .int .u32 x.rc, .int .u32 x.rk, .int .i32 x.ch] 27)).heap.size = w.heap.size + 1 by simp] at this
          exact this.ext x1
        have a2 := x1.keep (p := ⟨w.heap.size, 2, none⟩) (v := Vu x.lc) (by simp [go_sem])
        have a3 := x1.keep (p := ⟨w.heap.size, 3, none⟩) (v := Vu x.lk) (by simp [go_sem])
        have a4 := x1.keep (p := ⟨w.heap.size, 4, none⟩) (v := Vu x.rc) (by simp [go_sem])
        have a5 := x1.keep (p := ⟨w.heap.size, 5, none⟩) (v := Vu x.rk) (by simp [go_sem])
        have xw : Ext w w1 := (((Ext.refl _).alloc _).alloc _).trans x1
        clear x1
        have hwb : w.heap.size ≤ w.heap.size + 1 := by omega
        obtain ⟨pb, hpb⟩ : ∃ pb, w.heap.size + 1 = pb := ⟨_, rfl⟩
        obtain ⟨pa, hpa⟩ : ∃ pa, w.heap.size = pa := ⟨_, rfl⟩
        rw [hpb] at b0 hwb ⊢
        rw [hpa] at a2 a3 a4 a5 ⊢
        clear hpa hpb
        replace b0 := Lib.hid b0
        go_wp2_with fail
        refine (none_any _ _ _).mono ?_
        rintro e w2 ⟨rfl, x2⟩
        replace xw := xw.trans x2
        replace b0 := Lib.hid (b0.out.ext x2)
        replace a2 := x2.keep a2
        replace a3 := x2.keep a3
        replace a4 := x2.keep a4
        replace a5 := x2.keep a5
        clear x2
        go_wp2_with fail
        refine (hc.out _ xw).mono ?_
        rintro e w3 ⟨rfl, x3⟩
        replace xw := xw.trans x3
        replace b0 := Lib.hid (b0.out.ext x3)
        replace a2 := x3.keep a2
        replace a3 := x3.keep a3
        replace a4 := x3.keep a4
        replace a5 := x3.keep a5
        clear x3
        obtain ⟨k0, k1, k2⟩ := b0.out.cells
        have f0 := b0.out.thaw 0
        have f1 := b0.out.thaw 1
        have f2 := b0.out.thaw 2
        obtain ⟨z0, z1, z2⟩ := (b0.out.store x.rc x.rk false).cells
        go_wp2
        exact bodyPost_ret (v := hgv ⟨(x.rc, x.rk), false⟩) (by simp [results, Try.results24, go_sem, z0, z1, z2]) rfl ⟨by rw [hR.out], ((xw.setCell hwb _).setCell hwb _).setCell hwb _⟩
      | false =>
        rw [hB] at hc hR
        rw [if_neg (by decide)] at hR
        replace hR := Lib.hid hR.symm
        clear hB
        go_enter Try.func24, Try.ntmps24
        go_wp2_with fail
        refine (none_any _ _ _).mono ?_
        rintro e w1 ⟨rfl, x1⟩
        have b0 : HtIs w1 (w.heap.size + 1) ⟨(0, 0), false⟩ := by
          have := HtIs.new (w.alloc (.cells #[.int .u32 x.c, .int .u32 x.k, .int .u32 x.lc, .int .u32 x.lk, .int .u32 x.rc, .int .u32 x.rk, .int .i32 x.ch] 27)) 0 0 false
          rw [show (w.alloc (.cells #[.int .u32 x.c, .int .u32 x.k, .int .u32 x.lc, .int .u32 x.lk, .int .u32 x.rc, .int .u32 x.rk, .int .i32 x.ch] 27)).heap.size = w.heap.size + 1 by simp] at this
          exact this.ext x1
        have a2 := x1.keep (p := ⟨w.heap.size, 2, none⟩) (v := Vu x.lc) (by simp [go_sem])
        have a3 := x1.keep (p := ⟨w.heap.size, 3, none⟩) (v := Vu x.lk) (by simp [go_sem])
        have a4 := x1.keep (p := ⟨w.heap.size, 4, none⟩) (v := Vu x.rc) (by simp [go_sem])
        have a5 := x1.keep (p := ⟨w.heap.size, 5, none⟩) (v := Vu x.rk) (by simp [go_sem])
        have xw : Ext w w1 := (((Ext.refl _).alloc _).alloc _).trans x1
        clear x1
        have hwb : w.heap.size ≤ w.heap.size + 1 := by omega
        obtain ⟨pb, hpb⟩ : ∃ pb, w.heap.size + 1 = pb := ⟨_, rfl⟩
        obtain ⟨pa, hpa⟩ : ∃ pa, w.heap.size = pa := ⟨_, rfl⟩
        rw [hpb] at b0 hwb ⊢
        rw [hpa] at a2 a3 a4 a5 ⊢
        clear hpa hpb
        replace b0 := Lib.hid b0
        go_wp2_with fail
        refine (none_any _ _ _).mono ?_
        rintro e w2 ⟨rfl, x2⟩
        replace xw := xw.trans x2
        replace b0 := Lib.hid (b0.out.ext x2)
        replace a2 := x2.keep a2
        replace a3 := x2.keep a3
        replace a4 := x2.keep a4
        replace a5 := x2.keep a5
        clear x2
        go_wp2_with fail
        refine (hc.out _ xw).mono ?_
        rintro e w3 ⟨rfl, x3⟩
        replace xw := xw.trans x3
        replace b0 := Lib.hid (b0.out.ext x3)
        replace a2 := x3.keep a2
        replace a3 := x3.keep a3
        replace a4 := x3.keep a4
        replace a5 := x3.keep a5
        clear x3
        go_wp2_with fail
        refine (none_any _ _ _).mono ?_
        rintro e w4 ⟨rfl, x2⟩
        replace xw := xw.trans x2
        replace b0 := Lib.hid (b0.out.ext x2)
        replace a2 := x2.keep a2
        replace a3 := x2.keep a3
        replace a4 := x2.keep a4
        replace a5 := x2.keep a5
        clear x2
        obtain ⟨k0, k1, k2⟩ := b0.out.cells
        have f0 := b0.out.thaw 0
        have f1 := b0.out.thaw 1
        have f2 := b0.out.thaw 2
        obtain ⟨z0, z1, z2⟩ := (b0.out.store x.lc x.lk true).cells
        go_wp2
        exact bodyPost_ret (v := hgv ⟨(x.lc, x.lk), true⟩) (by simp [results, Try.results24, go_sem, z0, z1, z2]) rfl ⟨by rw [hR.out], ((xw.setCell hwb _).setCell hwb _).setCell hwb _⟩

set_option maxRecDepth 100000 in
set_option maxHeartbeats 4000000 in
theorem hang_c (q : Nat) (l : List It) (x : It) (w : World)
    (hcall : x.rc ≠ 0 → x.lc ≠ 0 → ∀ W, Ext w W → Calls Try.prog 25 #[idv x.rc x.rk, idv x.lc x.lk, .pointer (some ⟨q, 0, none⟩)] W fun e w' => e = .returned (.bool (blwP l (paths l) (irt x) (ilf x))) ∧ Ext W w') :
    Calls Try.prog 24 #[itv x, .func (.func 25) #[] #[.pointer (some ⟨q, 0, none⟩)]] w fun e w' => e = .returned (hgv (hgP l x)) ∧ Ext w w' := by
  obtain ⟨R, hR⟩ : ∃ R, hgP l x = R := ⟨_, rfl⟩
  rw [hR]
  by_cases e0 : x.rc = 0
  · have g0 : (x.rc == 0) = true := by simpa using e0
    rw [hgP_stay e0] at hR
    by_cases e1 : x.lc = 0
    · have g1 : (x.lc == 0) = true := by simpa using e1
      rw [if_pos e1] at hR
      replace hR := Lib.hid hR.symm
      clear e0 e1 hcall
      go_enter Try.func24, Try.ntmps24
      go_wp2_with fail
      refine (none_any _ _ _).mono ?_
      rintro e w1 ⟨rfl, x1⟩
      have b0 : HtIs w1 (w.heap.size + 1) ⟨(0, 0), false⟩ := by
        have := HtIs.new (w.alloc (.cells #[.int .u32 x.c, .int .u32 x.k, .int .u32 x.lc, .int .u32 x.lk, .int .u32 x.rc, .int .u32 x.rk, .int .i32 x.ch] 27)) 0 0 false
        rw [show (w.alloc (.cells #[.int .u32 x.c, .int .u32 x.k, .int .u32 x.lc, .int .u32 x.lk, .int .u32 x.rc, .int .u32 x.rk, .int .i32 x.ch] 27)).heap.size = w.heap.size + 1 by simp] at this
        exact this.ext x1
      have a2 := x1.keep (p := ⟨w.heap.size, 2, none⟩) (v := Vu x.lc) (by simp [go_sem])
      have a3 := x1.keep (p := ⟨w.heap.size, 3, none⟩) (v := Vu x.lk) (by simp [go_sem])
      have a4 := x1.keep (p := ⟨w.heap.size, 4, none⟩) (v := Vu x.rc) (by simp [go_sem])
      have a5 := x1.keep (p := ⟨w.heap.size, 5, none⟩) (v := Vu x.rk) (by simp [go_sem])
      have xw : Ext w w1 := (((Ext.refl _).alloc _).alloc _).trans x1
      clear x1
      have hwb : w.heap.size ≤ w.heap.size + 1 := by omega
      obtain ⟨pb, hpb⟩ : ∃ pb, w.heap.size + 1 = pb := ⟨_, rfl⟩
      obtain ⟨pa, hpa⟩ : ∃ pa, w.heap.size = pa := ⟨_, rfl⟩
      rw [hpb] at b0 hwb ⊢
      rw [hpa] at a2 a3 a4 a5 ⊢
      clear hpa hpb
      replace b0 := Lib.hid b0
      go_wp2_with fail
      refine (none_any _ _ _).mono ?_
      rintro e w2 ⟨rfl, x2⟩
      replace xw := xw.trans x2
      replace b0 := Lib.hid (b0.out.ext x2)
      replace a2 := x2.keep a2
      replace a3 := x2.keep a3
      replace a4 := x2.keep a4
      replace a5 := x2.keep a5
      clear x2
      obtain ⟨k0, k1, k2⟩ := b0.out.cells
      have f0 := b0.out.thaw 0
      have f1 := b0.out.thaw 1
      have f2 := b0.out.thaw 2
      obtain ⟨z0, z1, z2⟩ := (b0.out.store 0 0 true).cells
      go_wp2
      exact bodyPost_ret (v := hgv ⟨(0, 0), true⟩) (by simp [results, Try.results24, go_sem, z0, z1, z2]) rfl ⟨by rw [hR.out], ((xw.setCell hwb _).setCell hwb _).setCell hwb _⟩
    · have g1 : (x.lc == 0) = false := by simpa using e1
      rw [if_neg e1] at hR
      replace hR := Lib.hid hR.symm
      clear e0 e1 hcall
      go_enter Try.func24, Try.ntmps24
      go_wp2_with fail
      refine (none_any _ _ _).mono ?_
      rintro e w1 ⟨rfl, x1⟩
      have b0 : HtIs w1 (w.heap.size + 1) ⟨(0, 0), false⟩ := by
        have := HtIs.new (w.alloc (.cells #[.int .u32 x.c, .int .u32 x.k, .int .u32 x.lc, .int .u32 x.lk, .int .u32 x.rc, .int .u32 x.rk, .int .i32 x.ch] 27)) 0 0 false
        rw [show (w.alloc (.cells #[.int .u32 x.c, .int .u32 x.k, .int .u32 x.lc, .int .u32 x.lk, .int .u32 x.rc, .int .u32 x.rk, .int .i32 x.ch] 27)).heap.size = w.heap.size + 1 by simp] at this
        exact this.ext x1
      have a2 := x1.keep (p := ⟨w.heap.size, 2, none⟩) (v := Vu x.lc) (by simp [go_sem])
      have a3 := x1.keep (p := ⟨w.heap.size, 3, none⟩) (v := Vu x.lk) (by simp [go_sem])
      have a4 := x1.keep (p := ⟨w.heap.size, 4, none⟩) (v := Vu x.rc) (by simp [go_sem])
      have a5 := x1.keep (p := ⟨w.heap.size, 5, none⟩) (v := Vu x.rk) (by simp [go_sem])
      have xw : Ext w w1 := (((Ext.refl _).alloc _).alloc _).trans x1
      clear x1
      have hwb : w.heap.size ≤ w.heap.size + 1 := by omega
      obtain ⟨pb, hpb⟩ : ∃ pb, w.heap.size + 1 = pb := ⟨_, rfl⟩
      obtain ⟨pa, hpa⟩ : ∃ pa, w.heap.size = pa := ⟨_, rfl⟩
      rw [hpb] at b0 hwb ⊢
      rw [hpa] at a2 a3 a4 a5 ⊢
      clear hpa hpb
      replace b0 := Lib.hid b0
      go_wp2_with fail
      refine (none_any _ _ _).mono ?_
      rintro e w2 ⟨rfl, x2⟩
      replace xw := xw.trans x2
      replace b0 := Lib.hid (b0.out.ext x2)
      replace a2 := x2.keep a2
      replace a3 := x2.keep a3
      replace a4 := x2.keep a4
      replace a5 := x2.keep a5
      clear x2
      obtain ⟨k0, k1, k2⟩ := b0.out.cells
      have f0 := b0.out.thaw 0
      have f1 := b0.out.thaw 1
      have f2 := b0.out.thaw 2
      obtain ⟨z0, z1, z2⟩ := (b0.out.store x.lc x.lk true).cells
      go_wp2
      exact bodyPost_ret (v := hgv ⟨(x.lc, x.lk), true⟩) (by simp [results, Try.results24, go_sem, z0, z1, z2]) rfl ⟨by rw [hR.out], ((xw.setCell hwb _).setCell hwb _).setCell hwb _⟩
  · have g0 : (x.rc == 0) = false := by simpa using e0
    by_cases e1 : x.lc = 0
    · have g1 : (x.lc == 0) = true := by simpa using e1
      rw [hgP_root e0 e1] at hR
      replace hR := Lib.hid hR.symm
      clear e0 e1 hcall
      go_enter Try.func24, Try.ntmps24
      go_wp2_with fail
      refine (none_any _ _ _).mono ?_
      rintro e w1 ⟨rfl, x1⟩
      have b0 : HtIs w1 (w.heap.size + 1) ⟨(0, 0), false⟩ := by
        have := HtIs.new (w.alloc (.cells #[.int .u32 x.c, .int .u32 x.k, .int .u32 x.lc, .int .u32 x.lk, .int .u32 x.rc, .int .u32 x.rk, .int .i32 x.ch] 27)) 0 0 false
        rw [show (w.alloc (.cells #[.int .u32 x.c, .int .u32 x.k, .int .u32 x.lc, .int .u32 x.lk, .int .u32 x.rc, .int .u32 x.rk, .int .i32 x.ch] 27)).heap.size = w.heap.size + 1 by simp] at this
        exact this.ext x1
      have a2 := x1.keep (p := ⟨w.heap.size, 2, none⟩) (v := Vu x.lc) (by simp [go_sem])
      have a3 := x1.keep (p := ⟨w.heap.size, 3, none⟩) (v := Vu x.lk) (by simp [go_sem])
      have a4 := x1.keep (p := ⟨w.heap.size, 4, none⟩) (v := Vu x.rc) (by simp [go_sem])
      have a5 := x1.keep (p := ⟨w.heap.size, 5, none⟩) (v := Vu x.rk) (by simp [go_sem])
      have xw : Ext w w1 := (((Ext.refl _).alloc _).alloc _).trans x1
      clear x1
      have hwb : w.heap.size ≤ w.heap.size + 1 := by omega
      obtain ⟨pb, hpb⟩ : ∃ pb, w.heap.size + 1 = pb := ⟨_, rfl⟩
      obtain ⟨pa, hpa⟩ : ∃ pa, w.heap.size = pa := ⟨_, rfl⟩
      rw [hpb] at b0 hwb ⊢
      rw [hpa] at a2 a3 a4 a5 ⊢
      clear hpa hpb
      replace b0 := Lib.hid b0
      go_wp2_with fail
      refine (none_any _ _ _).mono ?_
      rintro e w2 ⟨rfl, x2⟩
      replace xw := xw.trans x2
      replace b0 := Lib.hid (b0.out.ext x2)
      replace a2 := x2.keep a2
      replace a3 := x2.keep a3
      replace a4 := x2.keep a4
      replace a5 := x2.keep a5
      clear x2
      obtain ⟨k0, k1, k2⟩ := b0.out.cells
      have f0 := b0.out.thaw 0
      have f1 := b0.out.thaw 1
      have f2 := b0.out.thaw 2
      obtain ⟨z0, z1, z2⟩ := (b0.out.store x.rc x.rk false).cells
      go_wp2
      exact bodyPost_ret (v := hgv ⟨(x.rc, x.rk), false⟩) (by simp [results, Try.results24, go_sem, z0, z1, z2]) rfl ⟨by rw [hR.out], ((xw.setCell hwb _).setCell hwb _).setCell hwb _⟩
    · have g1 : (x.lc == 0) = false := by simpa using e1
      rw [hgP_both e0 e1] at hR
      have hc := Lib.hid (hcall e0 e1)
      clear e0 e1 hcall
      cases hB : blwP l (paths l) (irt x) (ilf x) with
      | true =>
        rw [hB] at hc hR
        rw [if_pos rfl] at hR
        replace hR := Lib.hid hR.symm
        clear hB
        go_enter Try.func24, Try.ntmps24
        go_wp2_with fail
        refine (none_any _ _ _).mono ?_
        rintro e w1 ⟨rfl, x1⟩
        have b0 : HtIs w1 (w.heap.size + 1) ⟨(0, 0), false⟩ := by
          have := HtIs.new (w.alloc (.cells #[.int .u32 x.c, .int .u32 x.k, .int .u32 x.lc, .int .u32 x.lk, .int .u32 x.rc, .int .u32 x.rk, .int .i32 x.ch] 27)) 0 0 false
          rw [show (w.alloc (.cells #[.int .u32 x.c, .int .u32 x.k, .int .u32 x.lc, .int .u32 x.lk, .int .u32 x.rc, .int .u32 x.rk, .int .i32 x.ch] 27)).heap.size = w.heap.size + 1 by simp] at this
          exact this.ext x1
        have a2 := x1.keep (p := ⟨w.heap.size, 2, none⟩) (v := Vu x.lc) (by simp [go_sem])
        have a3 := x1.keep (p := ⟨w.heap.size, 3, none⟩) (v := Vu x.lk) (by simp [go_sem])
        have a4 := x1.keep (p := ⟨w.heap.size, 4, none⟩) (v := Vu x.rc) (by simp [go_sem])
        have a5 := x1.keep (p := ⟨w.heap.size, 5, none⟩) (v := Vu x.rk) (by simp [go_sem])
        have xw : Ext w w1 := (((Ext.refl _).alloc _).alloc _).trans x1
        clear x1
        have hwb : w.heap.size ≤ w.heap.size + 1 := by omega
        obtain ⟨pb, hpb⟩ : ∃ pb, w.heap.size + 1 = pb := ⟨_, rfl⟩
        obtain ⟨pa, hpa⟩ : ∃ pa, w.heap.size = pa := ⟨_, rfl⟩
        rw [hpb] at b0 hwb ⊢
        rw [hpa] at a2 a3 a4 a5 ⊢
        clear hpa hpb
        replace b0 := Lib.hid b0
        go_wp2_with fail
        refine (none_any _ _ _).mono ?_
        rintro e w2 ⟨rfl, x2⟩
        replace xw := xw.trans x2
        replace b0 := Lib.hid (b0.out.ext x2)
        replace a2 := x2.keep a2
        replace a3 := x2.keep a3
        replace a4 := x2.keep a4
        replace a5 := x2.keep a5
        clear x2
        go_wp2_with fail
        refine (hc.out _ xw).mono ?_
        rintro e w3 ⟨rfl, x3⟩
        replace xw := xw.trans x3
        replace b0 := Lib.hid (b0.out.ext x3)
        replace a2 := x3.keep a2
        replace a3 := x3.keep a3
        replace a4 := x3.keep a4
        replace a5 := x3.keep a5
        clear x3
        obtain ⟨k0, k1, k2⟩ := b0.out.cells
        have f0 := b0.out.thaw 0
        have f1 := b0.out.thaw 1
        have f2 := b0.out.thaw 2
        obtain ⟨z0, z1, z2⟩ := (b0.out.store x.rc x.rk false).cells
        go_wp2
        exact bodyPost_ret (v := hgv ⟨(x.rc, x.rk), false⟩) (by simp [results, Try.results24, go_sem, z0, z1, z2]) rfl ⟨by rw [hR.out], ((xw.setCell hwb _).setCell hwb _).setCell hwb _⟩
      | false =>
        rw [hB] at hc hR
        rw [if_neg (by decide)] at hR
        replace hR := Lib.hid hR.symm
        clear hB
        go_enter Try.func24, Try.ntmps24
        go_wp2_with fail
        refine (none_any _ _ _).mono ?_
        rintro e w1 ⟨rfl, x1⟩
        have b0 : HtIs w1 (w.heap.size + 1) ⟨(0, 0), false⟩ := by
          have := HtIs.new (w.alloc (.cells #[.int .u32 x.c, .int .u32 x.k, .int .u32 x.lc, .int .u32 x.lk, .int .u32 x.rc, .int .u32 x.rk, .int .i32 x.ch] 27)) 0 0 false
          rw [show (w.alloc (.cells #[.int .u32 x.c, .int .u32 x.k, .int .u32 x.lc, .int .u32 x.lk, .int .u32 x.rc, .int .u32 x.rk, .int .i32 x.ch] 27)).heap.size = w.heap.size + 1 by simp] at this
          exact this.ext x1
        have a2 := x1.keep (p := ⟨w.heap.size, 2, none⟩) (v := Vu x.lc) (by simp [go_sem])
        have a3 := x1.keep (p := ⟨w.heap.size, 3, none⟩) (v := Vu x.lk) (by simp [go_sem])
        have a4 := x1.keep (p := ⟨w.heap.size, 4, none⟩) (v := Vu x.rc) (by simp [go_sem])
        have a5 := x1.keep (p := ⟨w.heap.size, 5, none⟩) (v := Vu x.rk) (by simp [go_sem])
        have xw : Ext w w1 := (((Ext.refl _).alloc _).alloc _).trans x1
        clear x1
        have hwb : w.heap.size ≤ w.heap.size + 1 := by omega
        obtain ⟨pb, hpb⟩ : ∃ pb, w.heap.size + 1 = pb := ⟨_, rfl⟩
        obtain ⟨pa, hpa⟩ : ∃ pa, w.heap.size = pa := ⟨_, rfl⟩
        rw [hpb] at b0 hwb ⊢
        rw [hpa] at a2 a3 a4 a5 ⊢
        clear hpa hpb
        replace b0 := Lib.hid b0
        go_wp2_with fail
        refine (none_any _ _ _).mono ?_
        rintro e w2 ⟨rfl, x2⟩
        replace xw := xw.trans x2
        replace b0 := Lib.hid (b0.out.ext x2)
        replace a2 := x2.keep a2
        replace a3 := x2.keep a3
        replace a4 := x2.keep a4
        replace a5 := x2.keep a5
        clear x2
        go_wp2_with fail
        refine (hc.out _ xw).mono ?_
        rintro e w3 ⟨rfl, x3⟩
        replace xw := xw.trans x3
        replace b0 := Lib.hid (b0.out.ext x3)
        replace a2 := x3.keep a2
        replace a3 := x3.keep a3
        replace a4 := x3.keep a4
        replace a5 := x3.keep a5
        clear x3
        go_wp2_with fail
        refine (none_any _ _ _).mono ?_
        rintro e w4 ⟨rfl, x2⟩
        replace xw := xw.trans x2
        replace b0 := Lib.hid (b0.out.ext x2)
        replace a2 := x2.keep a2
        replace a3 := x2.keep a3
        replace a4 := x2.keep a4
        replace a5 := x2.keep a5
        clear x2
        obtain ⟨k0, k1, k2⟩ := b0.out.cells
        have f0 := b0.out.thaw 0
        have f1 := b0.out.thaw 1
        have f2 := b0.out.thaw 2
        obtain ⟨z0, z1, z2⟩ := (b0.out.store x.lc x.lk true).cells
        go_wp2
        exact bodyPost_ret (v := hgv ⟨(x.lc, x.lk), true⟩) (by simp [results, Try.results24, go_sem, z0, z1, z2]) rfl ⟨by rw [hR.out], ((xw.setCell hwb _).setCell hwb _).setCell hwb _⟩

end Go.Proofs.Ytnocdfmmhnnbeaa

namespace Go.Proofs.Ytnocdfmmhnnbeaa
open Go.ChangeShapes Go.WideShapes Go.ChangeAt Go.RowKit Go.Sort
set_option linter.unusedVariables false
set_option linter.unusedSimpArgs false

structure SoftAtP (Rel : World → World → Prop) (k0 : Nat) (Pre Post : World → Prop) (tab : SoftTab) (a0 a : Act) (w W : World) (listed : Array Bool) : Prop where
  rel : Rel w W
  phase : (listed.getD k0 false = true → Post W) ∧ (listed.getD k0 false = false → Pre W)
  defers : a.defers = a0.defers
  size : a.tmps.size = a0.tmps.size
  out : ∀ t, t ∉ tab.map (·.1) → a.tmps[t]? = a0.tmps[t]?
  told : ∀ (k d : Nat) (R : Told), tab[k]? = some (d, R) → listed.getD k false = true → R (a.tmps.getD d undef) W

def SoftStepP (Rel : World → World → Prop) (P : Program) (ops : Array Oper) (tab : SoftTab) (Q : Exit → Act → World → Prop) (a0 : Act) (w : World) (k : Nat) (o : Oper) : Prop :=
  ∀ a W, Rel w W → (∀ t, t ∉ tab.map (·.1) → a.tmps.getD t undef = a0.tmps.getD t undef) → (∀ e ∈ o.after.toList, Region.binds .any e = true → ∀ (d : Nat) (R : Told), tab[e.on]? = some (d, R) → R (a.tmps.getD d undef) W ∧ d < a.tmps.size) →
    ∀ (d : Nat) (R : Told), tab[k]? = some (d, R) → wpOp P ops Q k (fun a' W' => ∃ v, a' = a.put (some d) v ∧ R v W' ∧ Ext W W') a W
def SoftStepC (Rel : World → World → Prop) (Pre Post : World → Prop) (P : Program) (ops : Array Oper) (tab : SoftTab) (Q : Exit → Act → World → Prop) (a0 : Act) (w : World) (k : Nat) (o : Oper) : Prop :=
  ∀ a W, Rel w W → Pre W → (∀ t, t ∉ tab.map (·.1) → a.tmps.getD t undef = a0.tmps.getD t undef) → (∀ e ∈ o.after.toList, Region.binds .any e = true → ∀ (d : Nat) (R : Told), tab[e.on]? = some (d, R) → R (a.tmps.getD d undef) W ∧ d < a.tmps.size) →
    ∀ (d : Nat) (R : Told), tab[k]? = some (d, R) → wpOp P ops Q k (fun a' W' => ∃ v, a' = a.put (some d) v ∧ R v W' ∧ Rel W W' ∧ Post W') a W

theorem wpAny_softP {Rel : World → World → Prop} {k0 : Nat} {Pre Post : World → Prop} {P : Program} {ops : Array Oper} {n : Nat} {tab : SoftTab} {Q : Exit → Act → World → Prop} {a0 : Act} {w : World} {rest : List Oper}
    (htrans : ∀ a b c, Rel a b → Rel b c → Rel a c)
    (hlen : tab.length = n) (hnd : (tab.map (·.1)).Nodup) (hsz : ∀ d ∈ tab.map (·.1), d < a0.tmps.size)
    (hn : n < ops.size) (hs : Region.sinkB .any ops n = true) (hc : Region.chainB .any ops n = true)
    (hback : ∀ (k : Nat) (o : Oper), k < n → ops[k]? = some o → ∀ e ∈ o.after.toList, Region.binds .any e = true → e.on < k)
    (hmono : ∀ (k d : Nat) (R : Told), tab[k]? = some (d, R) → ∀ (v : Value) (W W' : World), R v W → Rel W W' → R v W')
    (hsub : ∀ a b, Ext a b → Rel a b) (hpre : ∀ a b, Ext a b → Pre a → Pre b) (hpost : ∀ a b, Ext a b → Post a → Post b) (hk0 : k0 < n)
    (hstep : ∀ (k : Nat) (o : Oper), k < n → k ≠ k0 → ops[k]? = some o → SoftStepP Rel P ops tab Q a0 w k o) (hcall : ∀ o, ops[k0]? = some o → SoftStepC Rel Pre Post P ops tab Q a0 w k0 o)
    (hrest : ∀ j, rest[j]? = ops[n + j]?) (hrl : rest.length = ops.size - n) (hseq : Region.seqB .any ops rest.length n (doneTo n ops.size) = true)
    (hend : ∀ a W, SoftAtP Rel k0 Pre Post tab a0 a w W (doneTo n ops.size) → wpList P ops Q rest a W) :
    ∀ (f : Nat) (listed : Array Bool) (a : Act) (W : World), HeadInv .any ops n listed → (listed.toList.take n).count false = f → SoftAtP Rel k0 Pre Post tab a0 a w W listed → wpAny P .any ops Q (f + rest.length) listed a W := by
  intro f
  induction f with
  | zero =>
    intro listed a W inv hcnt hI
    have e : listed = doneTo n ops.size := by
      apply Array.ext
      · rw [inv.size]; simp [doneTo]; omega
      · intro i h1 h2
        rcases Nat.lt_or_ge i n with h | h
        · have hm : listed[i] ∈ listed.toList.take n := by
            rw [List.mem_take_iff_getElem]
            exact ⟨i, by simp; omega, by simp⟩
          have hne : listed[i] ≠ false := fun e => by
            rw [e] at hm
            have := List.count_pos_iff.2 hm
            omega
          have : listed[i] = true := by simpa using hne
          rw [this]
          simp [doneTo, h]
        · have := inv.tail i h (by rw [← inv.size]; exact h1)
          have h3 : listed[i] = false := by simpa [Array.getD, h1] using this
          rw [h3]
          simp [doneTo, List.getElem_append, Nat.not_lt.2 h]
    subst e
    rw [Nat.zero_add]
    exact wpAny_of_seq (md := .any) rest n _ a W hrest hseq (hend a W hI)
  | succ f ih =>
    intro listed a W inv hcnt hI
    have hex : ∃ i, i < n ∧ listed.getD i true = false := by
      have hm : false ∈ listed.toList.take n := List.count_pos_iff.1 (by omega)
      rw [List.mem_take_iff_getElem] at hm
      obtain ⟨i, h1, h2⟩ := hm
      have h1' : i < n ∧ i < listed.size := by simp at h1; omega
      refine ⟨i, h1'.1, ?_⟩
      simp [Array.getD, h1'.2]
      simpa using h2
    obtain ⟨i0, hi0, hun0⟩ := hex
    rw [show f + 1 + rest.length = (f + rest.length) + 1 by omega]
    refine ⟨fun hr => ?_, fun i hi => ?_⟩
    · exfalso
      have key : ∀ k, k < n → listed.getD k false = true := by
        intro k
        induction k using Nat.strongRecOn with
        | ind k ihk =>
          intro hk
          rcases hb : listed.getD k false with _ | _
          · exfalso
            have hk' : k < listed.size := by rw [inv.size]; omega
            have hk2 : k < ops.size := by omega
            have hm : k ∈ Region.ready .any ops listed := by
              rw [mem_ready]
              refine ⟨getD_in hk' hb, ops[k], by simp [hk2], fun e he hb' => ?_⟩
              have hlt := hback k ops[k] hk (by simp [hk2]) e (by simpa using he) hb'
              exact ihk e.on hlt (by omega)
            rw [hr] at hm
            cases hm
          · rfl
      have h9 := key i0 hi0
      rw [getD_both hun0] at h9
      cases h9
    · have hin : i < n := by
        rcases Nat.lt_or_ge i n with h | h
        · exact h
        · exact absurd hi (tail_waits hs hc hn inv _ i0 rfl hi0 hun0 i h)
      obtain ⟨h1, o, ho, hdep⟩ := mem_ready.1 hi
      obtain ⟨⟨d, R⟩, htab⟩ : ∃ p, tab[i]? = some p := ⟨tab[i], List.getElem?_eq_getElem (by omega)⟩
      have hdsz : d < a.tmps.size := by rw [hI.size]; exact hsz d (List.mem_map.2 ⟨(d, R), List.mem_of_getElem? htab, rfl⟩)
      have hdeps : ∀ e ∈ o.after.toList, Region.binds .any e = true → ∀ (d' : Nat) (R' : Told), tab[e.on]? = some (d', R') → R' (a.tmps.getD d' undef) W ∧ d' < a.tmps.size := fun e he hb d' R' ht' =>
        ⟨hI.told e.on d' R' ht' (hdep e (by simpa using he) hb), by rw [hI.size]; exact hsz d' (List.mem_map.2 ⟨(d', R'), List.mem_of_getElem? ht', rfl⟩)⟩
      have hst : wpOp P ops Q i (fun a' W' => ∃ v, a' = a.put (some d) v ∧ R v W' ∧ Rel W W' ∧ ((listed.setIfInBounds i true).getD k0 false = true → Post W') ∧ ((listed.setIfInBounds i true).getD k0 false = false → Pre W')) a W := by
        by_cases hik : i = k0
        · subst hik
          have hf : listed.getD i false = false := getD_both h1
          refine wpOp_mono (fun a' W' hh => ?_) (hcall o ho a W hI.rel (hI.phase.2 hf) (fun t ht => by simp only [Array.getD_eq_getD_getElem?, hI.out t ht]) hdeps d R htab)
          obtain ⟨v, e1, e2, e3, e4⟩ := hh
          have hil' : i < listed.size := by rw [inv.size]; omega
          exact ⟨v, e1, e2, e3, fun _ => e4, fun hh => by simp [hil'] at hh⟩
        · refine wpOp_mono (fun a' W' hh => ?_) (hstep i o hin hik ho a W hI.rel (fun t ht => by simp only [Array.getD_eq_getD_getElem?, hI.out t ht]) hdeps d R htab)
          obtain ⟨v, e1, e2, e3⟩ := hh
          refine ⟨v, e1, e2, hsub _ _ e3, fun hh => hpost _ _ e3 (hI.phase.1 ?_), fun hh => hpre _ _ e3 (hI.phase.2 ?_)⟩
          · rw [getD_set_ne false hik] at hh; exact hh
          · rw [getD_set_ne false hik] at hh; exact hh
      refine wpOp_mono (fun a' W' hh => ?_) hst
      obtain ⟨v, rfl, hR, hx, hph⟩ := hh
      have hil' : i < listed.size := by rw [inv.size]; omega
      refine ih _ _ _ (inv.set hi hin) ?_ ⟨htrans _ _ _ hI.rel hx, hph, hI.defers, by simp only [Act.put, Array.size_setIfInBounds]; exact hI.size, ?_, ?_⟩
      · have e : (listed.toList.take n)[i]? = some false := by
          have h3 : listed[i] = false := by simpa [Array.getD, hil'] using h1
          rw [List.getElem?_take, if_pos hin]
          simp [hil', h3]
        have := count_set (listed.toList.take n) i e
        rw [Array.toList_setIfInBounds, List.take_set]
        omega
      · intro t ht
        have hne : d ≠ t := fun e => ht (e ▸ List.mem_map.2 ⟨(d, R), List.mem_of_getElem? htab, rfl⟩)
        simp only [Act.put]
        rw [Array.getElem?_setIfInBounds_ne hne]
        exact hI.out t ht
      · intro k d2 R2 ht2 hl2
        simp only [Act.put]
        by_cases hki : k = i
        · subst hki
          obtain ⟨rfl, rfl⟩ : d = d2 ∧ R = R2 := by rw [htab] at ht2; injection ht2 with e; injection e with e1 e2; exact ⟨e1, e2⟩
          simp [hdsz]
          exact hR
        · have hne : d ≠ d2 := tab_ne hnd htab ht2 (fun e => hki e.symm)
          have h3 : listed.getD k false = true := by rw [getD_set_ne false (fun e => hki e.symm)] at hl2; exact hl2
          have := hmono k d2 R2 ht2 _ _ _ (hI.told k d2 R2 ht2 h3) hx
          simp only [Array.getD_eq_getD_getElem?, Array.getElem?_setIfInBounds_ne hne]
          simp only [Array.getD_eq_getD_getElem?] at this
          exact this

/-- each operation of the head in its turn; the one that is k0 is asked otherwise -/
def SoftAllP (Rel : World → World → Prop) (k0 : Nat) (Pre Post : World → Prop) (P : Program) (ops : Array Oper) (tab : SoftTab) (Q : Exit → Act → World → Prop) (a0 : Act) (w : World) : List Oper → Nat → Prop
  | [], _ => True
  | o :: r, k => (if k = k0 then SoftStepC Rel Pre Post P ops tab Q a0 w k o else SoftStepP Rel P ops tab Q a0 w k o) ∧ SoftAllP Rel k0 Pre Post P ops tab Q a0 w r (k + 1)
theorem softAllP_spec {Rel : World → World → Prop} {k0 : Nat} {Pre Post : World → Prop} {P : Program} {ops : Array Oper} {tab : SoftTab} {Q : Exit → Act → World → Prop} {a0 : Act} {w : World} : ∀ (l : List Oper) (k : Nat), SoftAllP Rel k0 Pre Post P ops tab Q a0 w l k → ∀ (j : Nat) (o : Oper), l[j]? = some o →
    if k + j = k0 then SoftStepC Rel Pre Post P ops tab Q a0 w (k + j) o else SoftStepP Rel P ops tab Q a0 w (k + j) o
  | [], _, _, j, o, h => by simp at h
  | x :: l, k, h, 0, o, ho => by
    obtain rfl : x = o := by simpa using ho
    exact h.1
  | x :: l, k, h, j + 1, o, ho => by
    have := softAllP_spec l (k + 1) h.2 j o (by simpa using ho)
    rwa [Nat.add_assoc, Nat.add_comm 1 j] at this
/-- the region: a head of n operations by what its slots are told to hold, and the tail -/
theorem wp_soft_tailP (Rel : World → World → Prop) (k0 : Nat) (Pre Post : World → Prop) {P : Program} {l : List Oper} (n : Nat) (tab : SoftTab) {Q : Exit → Act → World → Prop} {a : Act} {w : World} {id : Nat} (hm : P.follows .mixedOrders = true)
    (hform : softForm n l = true) (htrans : ∀ a b c, Rel a b → Rel b c → Rel a c) (hsub : ∀ a b, Ext a b → Rel a b) (hpre : ∀ a b, Ext a b → Pre a → Pre b) (hpost : ∀ a b, Ext a b → Post a → Post b) (hk0 : k0 < n) (hw : Pre w)
    (hlen : tab.length = n) (hnd : (tab.map (·.1)).Nodup) (hsz : ∀ d ∈ tab.map (·.1), d < a.tmps.size) (hmono : SoftMonoR Rel tab)
    (hend : ∀ a' W, SoftAtP Rel k0 Pre Post tab a a' w W (doneTo n l.length) → wpList P l.toArray Q (l.drop n) a' W)
    (hstep : SoftAllP Rel k0 Pre Post P l.toArray tab Q a w (l.take n) 0) : (Code.region id l.toArray true).wp P Q a w := by
  unfold softForm at hform
  simp only [Bool.and_eq_true, decide_eq_true_eq] at hform
  obtain ⟨⟨⟨⟨hn, hs⟩, hc⟩, hb⟩, hq⟩ := hform
  have hdl : (l.drop n).length = l.length - n := by simp
  have inv0 : HeadInv .any l.toArray n (Array.replicate l.toArray.size false) :=
    ⟨by simp, fun j oj _ hl => (by rw [getD_replicate_false] at hl; cases hl), fun t _ ht => getD_in (by simpa using ht) (getD_replicate_false _ _)⟩
  refine wp_region_any hm ?_
  have := wpAny_softP (Rel := Rel) (k0 := k0) (Pre := Pre) (Post := Post) (P := P) (ops := l.toArray) (n := n) (tab := tab) (Q := Q) (a0 := a) (w := w) (rest := l.drop n) htrans hlen hnd hsz (by simpa using hn) hs hc
    (fun k o hk ho => softBackN_spec hb k o hk (by simpa using ho)) (fun k d R h v W W' => hmono (d, R) (List.mem_of_getElem? h) v W W')
    hsub hpre hpost hk0
    (fun k o hk hne ho => by
      have := softAllP_spec (l.take n) 0 hstep k o (by rw [List.getElem?_take, if_pos hk]; simpa using ho)
      rw [Nat.zero_add, if_neg hne] at this
      exact this)
    (fun o ho => by
      have := softAllP_spec (l.take n) 0 hstep k0 o (by rw [List.getElem?_take, if_pos hk0]; simpa using ho)
      rw [Nat.zero_add, if_pos rfl] at this
      exact this)
    (fun j => by simp [List.getElem?_drop]) (by simp) (by rw [hdl]; simpa using hq) (fun a' W h => hend a' W (by simpa using h)) n (Array.replicate l.toArray.size false) a { w with drawn := w.drawn + 1 } inv0
    (by
      simp
      omega) ⟨hsub _ _ ((Ext.refl w).drew), ⟨fun hh => (by rw [getD_replicate_false] at hh; cases hh), fun _ => hpre _ _ ((Ext.refl w).drew) hw⟩, rfl, rfl, fun _ _ => rfl, fun k d R h1 h2 => by rw [getD_replicate_false] at h2; cases h2⟩
  rw [hdl] at this
  have e : n + (l.length - n) = l.toArray.size := by simp; omega
  rw [e] at this
  exact this

/-- an operation that yields a value -/
theorem softP_val {Rel : World → World → Prop} {P : Program} {ops : Array Oper} {tab : SoftTab} {Q : Exit → Act → World → Prop} {a0 : Act} {w : World} {k : Nat} {o : Oper} (d : Nat) (R : Told) (hk : ops[k]? = some o) (hd : o.dst = some d) (htab : tab[k]? = some (d, R))
    (h : ∀ (a : Act) (W : World), Rel w W → (∀ t, t ∉ tab.map (·.1) → a.tmps.getD t undef = a0.tmps.getD t undef) → (∀ e ∈ o.after.toList, Region.binds .any e = true → ∀ (d : Nat) (R : Told), tab[e.on]? = some (d, R) → R (a.tmps.getD d undef) W ∧ d < a.tmps.size) →
      Region.wanted o (yielded ops a.tmps) = true ∧ ∃ v W', (execOp a.eval o).run P W = .ok (.value v) W' ∧ R v W' ∧ Ext W W') : SoftStepP Rel P ops tab Q a0 w k o := by
  intro a W hx hout hdep d' R' ht
  rw [htab] at ht
  injection ht with ht
  injection ht with e1 e2
  subst e1
  subst e2
  obtain ⟨hw, v, W', hrun, hR, hE⟩ := h a W hx hout hdep
  unfold wpOp
  simp only [hk]
  rw [if_pos hw]
  refine Or.inl ?_
  unfold Oper.wp
  rw [hrun, Oper.upon_value, hd]
  exact ⟨v, rfl, hR, hE⟩
/-- a call -/
theorem softP_call {Rel : World → World → Prop} {P : Program} {ops : Array Oper} {tab : SoftTab} {Q : Exit → Act → World → Prop} {a0 : Act} {w : World} {k : Nat} {o : Oper} (d : Nat) (R : Told) (hk : ops[k]? = some o) (hd : o.dst = some d) (htab : tab[k]? = some (d, R))
    (h : ∀ (a : Act) (W : World), Rel w W → (∀ t, t ∉ tab.map (·.1) → a.tmps.getD t undef = a0.tmps.getD t undef) → (∀ e ∈ o.after.toList, Region.binds .any e = true → ∀ (d : Nat) (R : Told), tab[e.on]? = some (d, R) → R (a.tmps.getD d undef) W ∧ d < a.tmps.size) →
      Region.wanted o (yielded ops a.tmps) = true ∧ ∃ f args, (execOp a.eval o).run P W = .ok (.enter f args) W ∧ Calls P f args W fun e W' => ∃ v, e = .returned v ∧ R v W' ∧ Ext W W') : SoftStepP Rel P ops tab Q a0 w k o := by
  intro a W hx hout hdep d' R' ht
  rw [htab] at ht
  injection ht with ht
  injection ht with e1 e2
  subst e1
  subst e2
  obtain ⟨hw, f, args, hrun, hc⟩ := h a W hx hout hdep
  unfold wpOp
  simp only [hk]
  rw [if_pos hw]
  refine Or.inl ?_
  unfold Oper.wp
  rw [hrun, Oper.upon_enter]
  refine hc.mono ?_
  rintro e W' ⟨v, rfl, hR, hE⟩
  rw [hd]
  exact ⟨v, rfl, hR, hE⟩

/-- the call that turns more than it makes -/
theorem softC_call {Rel : World → World → Prop} {Pre Post : World → Prop} {P : Program} {ops : Array Oper} {tab : SoftTab} {Q : Exit → Act → World → Prop} {a0 : Act} {w : World} {k : Nat} {o : Oper} (d : Nat) (R : Told) (hk : ops[k]? = some o) (hd : o.dst = some d) (htab : tab[k]? = some (d, R))
    (h : ∀ (a : Act) (W : World), Rel w W → Pre W → (∀ t, t ∉ tab.map (·.1) → a.tmps.getD t undef = a0.tmps.getD t undef) → (∀ e ∈ o.after.toList, Region.binds .any e = true → ∀ (d : Nat) (R : Told), tab[e.on]? = some (d, R) → R (a.tmps.getD d undef) W ∧ d < a.tmps.size) →
      Region.wanted o (yielded ops a.tmps) = true ∧ ∃ f args, (execOp a.eval o).run P W = .ok (.enter f args) W ∧ Calls P f args W fun e W' => ∃ v, e = .returned v ∧ R v W' ∧ Rel W W' ∧ Post W') : SoftStepC Rel Pre Post P ops tab Q a0 w k o := by
  intro a W hx hpre hout hdep d' R' ht
  rw [htab] at ht
  injection ht with ht
  injection ht with e1 e2
  subst e1
  subst e2
  obtain ⟨hw, f, args, hrun, hc⟩ := h a W hx hpre hout hdep
  unfold wpOp
  simp only [hk]
  rw [if_pos hw]
  refine Or.inl ?_
  unfold Oper.wp
  rw [hrun, Oper.upon_enter]
  refine hc.mono ?_
  rintro e W' ⟨v, rfl, hR, hE, hP⟩
  rw [hd]
  exact ⟨v, rfl, hR, hE, hP⟩

/-- the region, the frame behind it written out -/
theorem wp_soft_frameP (Rel : World → World → Prop) (k0 : Nat) (Pre Post : World → Prop) {P : Program} {l : List Oper} (n : Nat) (tab : SoftTab) {Q : Exit → Act → World → Prop} {a : Act} {w : World} {id : Nat} (hm : P.follows .mixedOrders = true)
    (hform : softForm n l = true) (htrans : ∀ a b c, Rel a b → Rel b c → Rel a c) (hsub : ∀ a b, Ext a b → Rel a b) (hpre : ∀ a b, Ext a b → Pre a → Pre b) (hpost : ∀ a b, Ext a b → Post a → Post b) (hk0 : k0 < n) (hw : Pre w)
    (hlen : tab.length = n) (hnd : (tab.map (·.1)).Nodup) (hsz : ∀ d ∈ tab.map (·.1), d < a.tmps.size) (hmono : SoftMonoR Rel tab)
    (hend : ∀ (W : World) (vs : List Value), ToldAll tab vs W → Rel w W → Post W → wpList P l.toArray Q (l.drop n) ⟨putAll a.tmps ((tab.map (·.1)).zip vs), a.defers⟩ W)
    (hstep : SoftAllP Rel k0 Pre Post P l.toArray tab Q a w (l.take n) 0) : (Code.region id l.toArray true).wp P Q a w := by
  refine wp_soft_tailP Rel k0 Pre Post n tab hm hform htrans hsub hpre hpost hk0 hw hlen hnd hsz hmono (fun a' W hS => ?_) hstep
  have h1 := hend W (tab.map fun p => a'.tmps.getD p.1 undef) (toldAll_of (f := fun d => a'.tmps.getD d undef) tab fun k d R hk => hS.told k d R hk (by
    have hk' : k < n := by have := (List.getElem?_eq_some_iff.1 hk).1; omega
    simp [doneTo, hk', List.getElem?_append])) hS.rel (hS.phase.1 (by simp [doneTo, hk0, List.getElem?_append]))
  rw [zip_told (fun d => a'.tmps.getD d undef), ← putAll_of a'.tmps _ a.tmps hS.size hS.out, ← hS.defers] at h1
  exact h1

end Go.Proofs.Ytnocdfmmhnnbeaa

namespace Go.Proofs.Ytnocdfmmhnnbeaa
open Go.ChangeShapes Go.WideShapes Go.ChangeAt Go.RowKit Go.Sort
set_option linter.unusedVariables false
set_option linter.unusedSimpArgs false

/-- only block p has turned -/
def RX (p : Nat) (W W' : World) : Prop := W.grownBy W' (some p)
theorem RX.refl (p : Nat) (W : World) : RX p W W := ⟨rfl, rfl, rfl, Nat.le_refl _, fun _ _ _ => rfl⟩
theorem RX.trans {p : Nat} {a b c : World} (h : RX p a b) (k : RX p b c) : RX p a c :=
  ⟨k.os.trans h.os, k.tape.trans h.tape, k.output.trans h.output, Nat.le_trans h.size k.size, fun j hj hne => (k.block j (Nat.lt_of_lt_of_le hj h.size) hne).trans (h.block j hj hne)⟩
theorem RX.ext {p : Nat} {a b : World} (h : Ext a b) : RX p a b := ⟨RowKit.Below.os h, RowKit.Below.tape h, RowKit.Below.output h, h.size, fun k hk _ => RowKit.Below.block h k hk⟩
theorem RX.down {p : Nat} {w0 W W' : World} (hx : Ext w0 W) (hp : w0.heap.size ≤ p) (h : RX p W W') : Ext w0 W' := RowKit.Below.grown hx h hx.size (fun k hk => by injection hk with hk; omega)
theorem RX.cell {p q j : Nat} {W W' : World} {x : Value} (h : RX p W W') (hc : W.cell? ⟨q, j, none⟩ = some x) (hne : q ≠ p) : W'.cell? ⟨q, j, none⟩ = some x := by
  rw [World.cell?_of_block (w := W) (w' := W') (a := ⟨q, j, none⟩) (h.block q (World.block_lt_of_cell? _ _ hc) (fun e => hne (by injection e)))]; exact hc
theorem RX.blk {p q : Nat} {W W' : World} {o : Obj} (h : RX p W W') (hc : W.heap[q]? = some o) (hne : q ≠ p) : W'.heap[q]? = some o := by
  rw [h.block q (Array.getElem?_eq_some_iff.1 hc).1 (fun e => hne (by injection e))]; exact hc
theorem RX.set {p q : Nat} {W W' : World} (h : RX p W W') (j : Nat) (u : Value) (hq : W.heap.size ≤ q ∨ q = p) : RX p W (W'.setCell ⟨q, j, none⟩ u) := by
  refine ⟨by rw [← h.os]; rfl, by rw [← h.tape]; rfl, by rw [← h.output]; rfl, by have := h.size; simpa [World.setCell] using this, fun k hk hne => ?_⟩
  rw [heap_setCell_other _ _ _ _ ?_, h.block k hk hne]
  intro e
  simp only at e
  subst e
  rcases hq with g | g
  · omega
  · exact hne (by rw [g])
/-- of the blocks below B two may have turned -/
structure GX (B p q : Nat) (w W : World) : Prop where
  os : W.os = w.os
  tape : W.tape = w.tape
  output : W.output = w.output
  size : B ≤ W.heap.size
  block : ∀ k, k < B → k ≠ p → k ≠ q → W.heap[k]? = w.heap[k]?
theorem GX.refl (B p q : Nat) (w : World) (h : B ≤ w.heap.size) : GX B p q w w := ⟨rfl, rfl, rfl, h, fun _ _ _ _ => rfl⟩
theorem GX.on {B p q : Nat} {w W W' : World} {row : Option Nat} (h : GX B p q w W) (g : W.grownBy W' row) (hr : ∀ k, row = some k → B ≤ k ∨ k = p ∨ k = q) : GX B p q w W' := by
  refine ⟨g.os.trans h.os, g.tape.trans h.tape, g.output.trans h.output, Nat.le_trans h.size g.size, fun k hk h1 h2 => ?_⟩
  rw [g.block k (Nat.lt_of_lt_of_le hk h.size) ?_, h.block k hk h1 h2]
  intro e
  rcases hr k e.symm with h3 | h3 | h3
  · omega
  · exact h1 h3
  · exact h2 h3
theorem GX.rx {B p q : Nat} {w W W' : World} (h : GX B p q w W) (g : RX p W W') : GX B p q w W' := h.on g (fun k e => by injection e with e; exact .inr (.inl e.symm))
theorem GX.set {B p q j : Nat} {w W : World} (h : GX B p q w W) (u : Value) : GX B p q w (W.setCell ⟨q, j, none⟩ u) := h.on (RX.set (RX.refl q W) j u (.inr rfl)) (fun k e => by injection e with e; exact .inr (.inr e.symm))
theorem GX.down {B p q : Nat} {w0 w W : World} (h : GX B p q w W) (hx : Ext w0 w) (hB : w.heap.size ≤ B) (hp : w0.heap.size ≤ p) (hq : w0.heap.size ≤ q) : Ext w0 W := by
  refine ⟨h.os.trans (RowKit.Below.os hx), h.tape.trans (RowKit.Below.tape hx), h.output.trans (RowKit.Below.output hx), by have := hx.size; have := h.size; omega, fun k hk => ?_⟩
  rw [h.block k (by have := hx.size; omega) (by omega) (by omega)]
  exact RowKit.Below.block hx k hk
theorem GX.toRX {B p q : Nat} {W w1 Z : World} (h : GX B p q w1 Z) (hx : Ext W w1) (hB : W.heap.size ≤ B) (hq : W.heap.size ≤ q) : RX p W Z := by
  refine ⟨h.os.trans (RowKit.Below.os hx), h.tape.trans (RowKit.Below.tape hx), h.output.trans (RowKit.Below.output hx), Nat.le_trans hB h.size, fun k hk hne => ?_⟩
  rw [h.block k (by omega) (fun e => hne (by rw [e])) (by omega)]
  exact RowKit.Below.block hx k hk
/-- a row's block is none of those below B -/
def far (B : Nat) (v : Value) : Prop := ∀ k, v.ownBlock = some k → B ≤ k
theorem far.nil (B : Nat) : far B (.slice none 0 0) := fun k hk => by cases hk
theorem far.mono {B C : Nat} {v : Value} (h : far B v) (hc : C ≤ B) : far C v := fun k hk => Nat.le_trans hc (h k hk)
theorem far.ne {B k : Nat} {v : Value} (h : far B v) (hk : k < B) : v.ownBlock = none ∨ v.ownBlock ≠ some k := .inr fun e => by have := h k e; omega
theorem far.on {B n : Nat} {v v' : Value} (h : far B v) (b : v'.ownBlock = v.ownBlock ∨ v'.ownBlock = some n) (hn : B ≤ n) : far B v' := fun k hk => by
  rcases b with e | e
  · exact h k (by rw [← e]; exact hk)
  · rw [e] at hk; injection hk with hk; omega

theorem GX.cellq {B q q4 j : Nat} {w W : World} {x : Value} (h : GX B q4 q4 w W) (hc : w.cell? ⟨q, j, none⟩ = some x) (hq : q < B) (hne : q ≠ q4) : W.cell? ⟨q, j, none⟩ = some x := by
  rw [World.cell?_of_block (w := w) (w' := W) (a := ⟨q, j, none⟩) (h.block q hq hne hne)]; exact hc
theorem GX.blkq {B q q4 : Nat} {w W : World} {o : Obj} (h : GX B q4 q4 w W) (hc : w.heap[q]? = some o) (hq : q < B) (hne : q ≠ q4) : W.heap[q]? = some o := by
  rw [h.block q hq hne hne]; exact hc
theorem GX.ext {B p q : Nat} {w W W' : World} (h : GX B p q w W) (hx : Ext W W') : GX B p q w W' :=
  h.on (row := none) ⟨RowKit.Below.os hx, RowKit.Below.tape hx, RowKit.Below.output hx, hx.size, fun k hk _ => RowKit.Below.block hx k hk⟩ (fun k e => by cases e)

end Go.Proofs.Ytnocdfmmhnnbeaa

namespace Go.Proofs.Ytnocdfmmhnnbeaa
open Go.ChangeShapes Go.WideShapes Go.ChangeAt Go.RowKit Go.Sort
set_option linter.unusedVariables false
set_option linter.unusedSimpArgs false
attribute [local go_sem] World.cell?_alloc_some

/-- a block of nodes, with room -/
def NdB (W : World) (b cap : Nat) (ns : List Nd) : Prop := ∃ cur, W.heap[b]? = some (.cells cur 68 (0, 0)) ∧ cur.size = cap * 6 ∧ ns.length ≤ cap ∧ cur.toList.take (ns.length * 6) = flat encN ns
theorem NdB.lt {W : World} {b cap : Nat} {ns : List Nd} (h : NdB W b cap ns) : b < W.heap.size := by
  obtain ⟨cur, h1, _⟩ := h
  exact (Array.getElem?_eq_some_iff.1 h1).1
theorem NdB.rx {W W' : World} {b cap p : Nat} {ns : List Nd} (h : NdB W b cap ns) (hx : RX p W W') (hne : b ≠ p) : NdB W' b cap ns := by
  obtain ⟨cur, h1, h2⟩ := h
  exact ⟨cur, hx.blk h1 hne, h2⟩
theorem NdB.ext {W W' : World} {b cap : Nat} {ns : List Nd} (h : NdB W b cap ns) (hx : Ext W W') : NdB W' b cap ns := by
  have hlt := h.lt
  obtain ⟨cur, h1, h2⟩ := h
  exact ⟨cur, (RowKit.Below.block hx b hlt).trans h1, h2⟩
theorem NdB.row {W : World} {b cap : Nat} {ns : List Nd} (h : NdB W b cap ns) : NdS W (some ⟨b, 0, none⟩) ns := fun h0 => by
  obtain ⟨cur, h1, h2, h3, h4⟩ := h
  refine ⟨b, 0, rfl, fun j u hu => ?_⟩
  rw [Nat.zero_add, cell_of_row W b j cur _ (0, 0) h1]
  rw [← h4, List.getElem?_take] at hu
  split at hu
  · simpa using hu
  · cases hu
theorem NdB.new (W : World) (x : Nd) : NdB (W.alloc (.cells #[.int .u32 x.id.1, .int .u32 x.id.2, .int .i64 x.on, .bool x.right, .int .i64 x.depth, .int .i64 x.far] 68)) W.heap.size 1 [x] := ⟨_, heap_alloc_new W _, rfl, Nat.le_refl _, rfl⟩
/-- what is grown, in blocks of the call's own -/
structure GrO (w0 W : World) (g b cap mb : Nat) (l : List It) (ns : List Nd) : Prop where
  ok : GrN l ns
  kn : knownI l = true
  box : W.heap[g]? = some (.cells #[.slice (some ⟨b, 0, none⟩) (l.length + 1) cap, .map (some mb)] 61 (0, 0))
  nds : NdB W b cap ns
  map : MapS W mb (numM l)
  lowG : w0.heap.size ≤ g
  lowB : w0.heap.size ≤ b
  lowM : w0.heap.size ≤ mb
  gb : g ≠ b
  gm : g ≠ mb
  bm : b ≠ mb
theorem GrO.cells {w0 W : World} {g b cap mb : Nat} {l : List It} {ns : List Nd} (h : GrO w0 W g b cap mb l ns) : W.cell? ⟨g, 0, none⟩ = some (.slice (some ⟨b, 0, none⟩) (l.length + 1) cap) ∧ W.cell? ⟨g, 1, none⟩ = some (.map (some mb)) :=
  ⟨by rw [cell_of_row W g 0 _ _ _ h.box]; rfl, by rw [cell_of_row W g 1 _ _ _ h.box]; rfl⟩
theorem GrO.room {w0 W : World} {g b cap mb : Nat} {l : List It} {ns : List Nd} (h : GrO w0 W g b cap mb l ns) : l.length + 1 ≤ cap := by
  obtain ⟨cur, h1, h2, h3, h4⟩ := h.nds
  rw [h.ok.len] at h3; exact h3
theorem GrO.read {w0 W : World} {g b cap mb : Nat} {l : List It} {ns : List Nd} (h : GrO w0 W g b cap mb l ns) : GrS W g l ns :=
  ⟨h.ok, h.kn, b, 0, cap, mb, h.cells.1, h.cells.2, h.room, h.nds.row, h.map⟩
theorem GrO.ext {w0 W W' : World} {g b cap mb : Nat} {l : List It} {ns : List Nd} (h : GrO w0 W g b cap mb l ns) (hx : Ext W W') : GrO w0 W' g b cap mb l ns :=
  ⟨h.ok, h.kn, (RowKit.Below.block hx g (Array.getElem?_eq_some_iff.1 h.box).1).trans h.box, h.nds.ext hx, h.map.ext hx, h.lowG, h.lowB, h.lowM, h.gb, h.gm, h.bm⟩

theorem setRow_rx (W : World) (b : Nat) (cs : Array Value) : RX b W (W.setRow b cs) := ⟨rfl, rfl, rfl, by simp, fun k _ hk => setRow_other W b k _ (fun e => hk (by rw [e]))⟩
/-- append of a node, where there is room -/
theorem app_N (w : World) (ty : TypeId) (b cap N : Nat) (ns : List Nd) (hN : ns.length = N) (hB : NdB w b cap ns) (hroom : N + 1 ≤ cap) (q c : Nat) (nd : Nd) (hr : NdS w (some ⟨q, 0, none⟩) [nd]) :
    ∃ w', (Builtin.append_ #[58, 58] ty #[.slice (some ⟨b, 0, none⟩) N cap, .slice (some ⟨q, 0, none⟩) 1 c]).run Try.prog w = .ok (.slice (some ⟨b, 0, none⟩) (N + 1) cap) w' ∧ NdB w' b cap (ns ++ [nd]) ∧ RX b w w' := by
  obtain ⟨i, hi, hz0, hz1, hz2⟩ := info_parts infoN
  obtain ⟨cur, h1, h2, h3, h4⟩ := hB
  subst hN
  have hnl : (flat encN [nd]).length = 1 * i.size := by rw [flat_len encN_len, hz1]; rfl
  have hfit : ns.length * i.size + (flat encN [nd]).length ≤ cur.size := by rw [hnl, hz1, h2]; omega
  have hrun := run_append_room (P := Try.prog) w 58 ty 68 i Try.underlying58 hi b ns.length cap cur h1 ⟨q, 0, none⟩ 1 c (flat encN [nd]) hnl (fun j u hu => by
    obtain ⟨b', o', e, hc⟩ := hr (by rw [flat_len encN_len]; exact Nat.succ_pos _)
    injection e with e
    injection e with e1 e2 e3
    subst e1
    subst e2
    rw [add_at]
    exact hc j u hu) (flat_one_cell encN_one [nd]) hroom hfit
  refine ⟨_, hrun, ⟨_, setRow_heap w b cur _ _ _ h1, ?_, ?_, ?_⟩, setRow_rx w b _⟩
  · simp only [List.size_toArray, List.length_append, List.length_take, List.length_drop, Array.length_toList]
    rw [hz1] at *
    rw [hnl] at *
    omega
  · rw [List.length_append]; exact hroom
  · rw [flat_append, hz1, h4, List.length_append]
    have : (flat encN ns ++ flat encN [nd]).length = (ns.length + [nd].length) * 6 := by rw [List.length_append, flat_len encN_len, flat_len encN_len, Nat.add_mul]
    rw [← this]
    exact List.take_left
/-- only block b has turned, and not its first n cells -/
structure RB (b n : Nat) (W W' : World) : Prop where
  rx : RX b W W'
  low : ∀ j x, j < n → W.cell? ⟨b, j, none⟩ = some x → W'.cell? ⟨b, j, none⟩ = some x
theorem RB.trans {b n : Nat} {x y z : World} (h : RB b n x y) (k : RB b n y z) : RB b n x z := ⟨h.rx.trans k.rx, fun j u hj hu => k.low j u hj (h.low j u hj hu)⟩
theorem RB.ext {b n : Nat} {x y : World} (h : Ext x y) : RB b n x y := ⟨RX.ext h, fun j u _ hu => h.keep hu⟩
theorem RB.of {b cap n : Nat} {W W' : World} {ns r : List Nd} (hx : RX b W W') (h : NdB W b cap ns) (h' : NdB W' b cap (ns ++ r)) (hn : n = ns.length * 6) : RB b n W W' := by
  refine ⟨hx, fun j x hj hc => ?_⟩
  subst hn
  obtain ⟨cur, h1, h2, h3, h4⟩ := h
  obtain ⟨cur', h1', h2', h3', h4'⟩ := h'
  rw [cell_of_row W b j cur _ (0, 0) h1] at hc
  rw [cell_of_row W' b j cur' _ (0, 0) h1']
  have e1 : (cur.toList.take (ns.length * 6))[j]? = some x := by rw [List.getElem?_take, if_pos hj]; simpa using hc
  have e2 : (cur'.toList.take ((ns ++ r).length * 6))[j]? = some x := by
    rw [h4', flat_append, List.getElem?_append_left (by rw [flat_len encN_len]; exact hj), ← h4]; exact e1
  rw [List.getElem?_take] at e2
  split at e2
  · simpa using e2
  · cases e2
theorem RB.row {b n : Nat} {W W' : World} {ns : List Nd} (hx : RB b n W W') (h : NdS W (some ⟨b, 0, none⟩) ns) (hn : ns.length * 6 ≤ n) : NdS W' (some ⟨b, 0, none⟩) ns := fun h0 => by
  obtain ⟨b', o', e, hc⟩ := h h0
  injection e with e
  injection e with e1 e2 e3
  subst e1
  subst e2
  refine ⟨b, 0, rfl, fun j u hu => ?_⟩
  have hj := lt_of_get hu
  rw [flat_len encN_len] at hj
  have := hc j u hu
  rw [Nat.zero_add] at this ⊢
  exact hx.low j u (by omega) this
/-- a builtin that turns more than it makes -/
theorem softC_val {Rel : World → World → Prop} {Pre Post : World → Prop} {P : Program} {ops : Array Oper} {tab : SoftTab} {Q : Exit → Act → World → Prop} {a0 : Act} {w : World} {k : Nat} {o : Oper} (d : Nat) (R : Told) (hk : ops[k]? = some o) (hd : o.dst = some d) (htab : tab[k]? = some (d, R))
    (h : ∀ (a : Act) (W : World), Rel w W → Pre W → (∀ t, t ∉ tab.map (·.1) → a.tmps.getD t undef = a0.tmps.getD t undef) → (∀ e ∈ o.after.toList, Region.binds .any e = true → ∀ (d : Nat) (R : Told), tab[e.on]? = some (d, R) → R (a.tmps.getD d undef) W ∧ d < a.tmps.size) →
      Region.wanted o (yielded ops a.tmps) = true ∧ ∃ v W', (execOp a.eval o).run P W = .ok (.value v) W' ∧ R v W' ∧ Rel W W' ∧ Post W') : SoftStepC Rel Pre Post P ops tab Q a0 w k o := by
  intro a W hx hpre hout hdep d' R' ht
  rw [htab] at ht
  injection ht with ht
  injection ht with e1 e2
  subst e1
  subst e2
  obtain ⟨hw, v, W', hrun, hR, hE, hP⟩ := h a W hx hpre hout hdep
  unfold wpOp
  simp only [hk]
  rw [if_pos hw]
  refine Or.inl ?_
  unfold Oper.wp
  rw [hrun, Oper.upon_value, hd]
  exact ⟨v, rfl, hR, hE, hP⟩

/-- what the slots hold -/
def uad (g b K cap on pb dp fr : Nat) (c k : Int) (rr : Bool) : SoftTab := [(27, fun z9 W => z9 = .pointer (some ⟨g, 0, none⟩)),
  (28, fun z9 W => z9 = .pointer (some ⟨g, 0, none⟩)),
  (29, fun z9 W => z9 = .pointer (some ⟨g, 0, none⟩)),
  (30, fun z9 W => z9 = .pointer (some ⟨g, 0, none⟩)),
  (31, fun z9 W => z9 = .slice (some ⟨b, 0, none⟩) K cap),
  (32, fun z9 W => z9 = .agg #[.int .u32 c, .int .u32 k]),
  (33, fun z9 W => z9 = Vi (on : Int)),
  (34, fun z9 W => z9 = .pointer (some ⟨pb, 2, none⟩)),
  (35, fun z9 W => z9 = .bool rr),
  (36, fun z9 W => z9 = .pointer (some ⟨g, 0, none⟩)),
  (37, fun z9 W => z9 = .pointer (some ⟨g, 0, none⟩)),
  (38, fun z9 W => z9 = .pointer (some ⟨g, 0, none⟩)),
  (39, fun z9 W => z9 = .slice (some ⟨b, 0, none⟩) K cap),
  (40, fun z9 W => z9 = Vi (on : Int)),
  (41, fun z9 W => z9 = .pointer (some ⟨b, on * 6, none⟩)),
  (42, fun z9 W => z9 = .pointer (some ⟨b, on * 6 + 4, none⟩)),
  (43, fun z9 W => z9 = Vi (dp : Int)),
  (44, fun z9 W => z9 = Vi ((dp + 1 : Nat) : Int)),
  (45, fun z9 W => z9 = .pointer (some ⟨g, 0, none⟩)),
  (46, fun z9 W => z9 = Vi (on : Int)),
  (47, fun z9 W => z9 = Vi (fr : Int)),
  (48, fun z9 W => z9 = ndv c k (on : Int) rr ((dp + 1 : Nat) : Int) (fr : Int)),
  (49, fun z9 W => ∃ q, z9 = .slice (some ⟨q, 0, none⟩) 1 1 ∧ q ≠ b ∧ NdB W q 1 [⟨(c, k), on, rr, dp + 1, fr⟩]),
  (50, fun z9 W => z9 = .slice (some ⟨b, 0, none⟩) (K + 1) cap)]
theorem uad_mono (g b K cap on pb dp fr : Nat) (c k : Int) (rr : Bool) : SoftMonoR (RB b (K * 6)) (uad g b K cap on pb dp fr c k rr) := by
  intro p hp v W W' h hx
  simp only [uad, List.mem_cons, List.not_mem_nil, or_false] at hp
  rcases hp with rfl | rfl | rfl | rfl | rfl | rfl | rfl | rfl | rfl | rfl | rfl | rfl | rfl | rfl | rfl | rfl | rfl | rfl | rfl | rfl | rfl | rfl | rfl | rfl
  all_goals first
    | exact h
    | exact (by obtain ⟨q, h1, h2, h3⟩ := h; exact ⟨q, h1, h2, h3.rx hx.rx h2⟩)

set_option maxRecDepth 100000 in
set_option maxHeartbeats 16000000 in
theorem add_any (g b cap mb : Nat) (l : List It) (ns : List Nd) (x : It) (w0 w : World) (h : GrO w0 w g b cap mb l ns) (hk : knownI (l ++ [x]) = true) (hx0 : Ext w0 w) (hcap : l.length + 2 ≤ cap) (hb : l.length ≤ 1000000000000000) :
    Calls Try.prog 28 #[.pointer (some ⟨g, 0, none⟩), idv x.c x.k, hgv (hgP l x)] w fun e w' => e = .returned (.tuple #[]) ∧ (∃ ns', GrO w0 w' g b cap mb (l ++ [x]) ns') ∧ Ext w0 w' := by
  have hk2 := hk
  rw [known_snoc, Bool.and_eq_true] at hk2
  obtain ⟨hx0c, hxn, _, _⟩ := knownX_spec hk2.2
  have hnone := Lib.hid (numM_none (a := (x.c, x.k)) hxn)
  have hc0 : (x.c == 0) = false := by simpa using hx0c
  obtain ⟨K, hK⟩ : ∃ K, l.length + 1 = K := ⟨_, rfl⟩
  have hon := numI_le l (hgP l x).on
  obtain ⟨nd, hnd⟩ := h.ok.get hon
  obtain ⟨d1, d2, d3, _⟩ := h.ok.deep _ nd hnd
  have b1 := pth_len_le h.kn hon
  obtain ⟨f1, fq, f2⟩ := h.ok.farF_is hon
  have hsn := Lib.hid (h.ok.snoc hk f1 f2 hnd)
  have hfarc := Lib.hid (fun (W : World) (hW : GrT W g l ns) => farFrom_any g l ns (numI l (hgP l x).on) W hW hon hb)
  have hnlen := Lib.hid h.ok.len
  have hnum := Lib.hid (numM_snoc l x)
  have hi1 : (0 : Int) ≤ (numI l (hgP l x).on : Int) := by omega
  have hi2 : (numI l (hgP l x).on : Int) < (K : Int) := by omega
  have hdp : nd.depth + 1 ≤ 1000000000000001 := by omega
  have hw1 : wrap64 ((nd.depth : Int) + 1) = ((nd.depth + 1 : Nat) : Int) := by rw [w64_in (by omega) (by omega)]; rfl
  have hoff := h.nds.row.at hnd
  have hdR := Lib.hid (fun W (hW : Ext w W) => (h.nds.ext hW).row.at hnd)
  have hlook := Lib.hid (fun W (hW : Ext w W) => (h.map.ext hW).num (hgP l x).on.1 (hgP l x).on.2)
  replace h := Lib.hid h
  have hKl := Lib.hid hK
  clear b1 d1 d2 d3 f1 f2 hnd hon hoff hk2 hxn hx0c
  generalize hgP l x = R at *
  obtain ⟨⟨ra, rb⟩, rr⟩ := R
  simp only at hsn hfarc hi1 hi2 hdR hlook
  generalize farF ns (numI l (ra, rb)) = fr at *
  generalize numI l (ra, rb) = on at *
  obtain ⟨dp, hdpe⟩ : ∃ d, nd.depth = d := ⟨_, rfl⟩
  rw [hdpe] at hdp hw1 hsn
  replace hdpe := Lib.hid hdpe
  have x0 := ((Ext.refl w).alloc (.cells #[.int .u32 x.c, .int .u32 x.k] 25)).alloc (.cells #[.int .u32 ra, .int .u32 rb, .bool rr] 35)
  obtain ⟨w1, hw1e⟩ : ∃ w1, (w.alloc (.cells #[.int .u32 x.c, .int .u32 x.k] 25)).alloc (.cells #[.int .u32 ra, .int .u32 rb, .bool rr] 35) = w1 := ⟨_, rfl⟩
  rw [hw1e] at x0
  have a0 : w1.cell? ⟨w.heap.size, 0, none⟩ = some (Vu x.c) := by rw [← hw1e]; simp [go_sem]
  have a1 : w1.cell? ⟨w.heap.size, 1, none⟩ = some (Vu x.k) := by rw [← hw1e]; simp [go_sem]
  have a2 : w1.cell? ⟨w.heap.size + 1, 0, none⟩ = some (Vu ra) := by rw [← hw1e]; simp [go_sem]
  have a3 : w1.cell? ⟨w.heap.size + 1, 1, none⟩ = some (Vu rb) := by rw [← hw1e]; simp [go_sem]
  have a4 : w1.cell? ⟨w.heap.size + 1, 2, none⟩ = some (.bool rr) := by rw [← hw1e]; simp [go_sem]
  have g0 := x0.keep h.out.cells.1
  have g1 := x0.keep h.out.cells.2
  rw [hK] at g0
  have hl1 := fun k => hlook.out (w1.drewN k) (x0.drewN k)
  replace hw1e := Lib.hid hw1e
  replace x0 := Lib.hid x0
  clear hK
  have hmp : mb < w.heap.size := h.out.map.lt
  have hbp : b < w.heap.size := h.out.nds.lt
  have hgp : g < w.heap.size := (Array.getElem?_eq_some_iff.1 h.out.box).1
  go_enter Try.func28, Try.ntmps28
  go_wp2
  rw [hw1e.out]
  clear hw1e hlook
  generalize w.heap.size = pa at *
  obtain ⟨pb, hpb⟩ : ∃ pb, pa + 1 = pb := ⟨_, rfl⟩
  rw [hpb] at a2 a3 a4 ⊢
  have hmb' : mb < pb := by omega
  have hbp2 : b < pb := by omega
  clear hpb
  go_quiet (fail)
  have xd := (Ext.refl w1).drewN nq
  replace x0 := Lib.hid (x0.out.trans xd)
  replace a0 := xd.keep a0
  replace a1 := xd.keep a1
  replace a4 := xd.keep a4
  replace g0 := xd.keep g0
  replace g1 := xd.keep g1
  clear a2 a3 hl1 xd
  generalize w1.drewN nq = w2 at *
  clear w1
  go_wp2_with fail
  refine (none_any _ _ _).mono ?_
  rintro e w3 ⟨rfl, x3⟩
  replace a0 := x3.keep a0
  replace a1 := x3.keep a1
  replace a4 := x3.keep a4
  replace g0 := x3.keep g0
  replace g1 := x3.keep g1
  replace x0 := Lib.hid (x0.out.trans x3)
  clear x3 w2
  go_wp2
  refine wp_region_still_tail 10 (by kernel_rfl) (by kernel_rfl) ?_
  simp only [List.take_succ_cons, List.take_zero, List.drop_succ_cons, List.drop_zero]
  have xd := (Ext.refl w3).drew
  replace x0 := Lib.hid (x0.out.trans xd)
  replace a0 := xd.keep a0
  replace a1 := xd.keep a1
  replace a4 := xd.keep a4
  replace g0 := xd.keep g0
  replace g1 := xd.keep g1
  clear xd
  change wpStill Try.prog _ w3.drew (fun a' => wpList Try.prog _ _ _ a' w3.drew) _ _
  generalize w3.drew = w4 at *
  clear w3
  repeat still_step
  refine wpStill_nil ?_
  refine wpList_store_map _ rfl _ _ _ _ _ rfl Try.underlying59 mb (numM l) rfl (h.out.map.ext x0.out) x.c x.k (Vi (K : Int)) rfl rfl hnone.out ?_
  intro w5 m5 g5
  have hgm := h.out.gm
  have hbm := h.out.bm
  have hgb := h.out.gb
  have r5 : RX mb w4 w5 := g5
  have hroom : K + 1 ≤ cap := by rw [← hKl.out]; omega
  have hw2 : IntKind.i64.wrap ((dp : Int) + 1) = (dp : Int) + 1 := by rw [IntWalk.i64_left]; exact w64_in (by omega) (by omega)
  have hon4 : on * 6 + 4 < K * 6 := by omega
  replace a0 := r5.cell a0 (by omega)
  replace a1 := r5.cell a1 (by omega)
  replace a4 := r5.cell a4 (by omega)
  replace g0 := r5.cell g0 hgm
  replace g1 := r5.cell g1 hgm
  have hh := h.out.ext x0.out
  have nb5 := Lib.hid (hh.nds.rx r5 hbm)
  have d4 : w5.cell? ⟨b, on * 6 + 4, none⟩ = some (Vi (dp : Int)) := by
    have := r5.cell (hdR.out _ x0.out).c4 hbm
    rw [Nat.zero_add, hdpe.out] at this
    exact this
  have hT5 : GrT w5 g l ns := ⟨hh.ok, hh.kn, b, 0, cap, by rw [hKl.out]; exact g0, hh.room, nb5.out.row⟩
  have hfar := Lib.hid (fun (W : World) (hW : RB b (K * 6) w5 W) => hfarc.out W ⟨hT5.ok, hT5.kn, b, 0, cap, by rw [hKl.out]; exact hW.rx.cell g0 h.out.gb, hT5.cells.elim fun _ hh => hh.elim fun _ hh => hh.elim fun _ hh => by rw [hKl.out]; omega, hW.row nb5.out.row (by rw [hnlen.out, hKl.out]; exact Nat.le_refl _)⟩)
  have box5 := Lib.hid (r5.blk hh.box hgm)
  have m5' := Lib.hid (show MapS w5 mb (numM (l ++ [x])) by rw [hnum.out, hKl.out]; exact m5)
  have e5 := Lib.hid (RX.down (hx0.trans x0.out) h.out.lowM r5)
  have hnl : Hid (ns.length = K) := Lib.hid (by rw [hnlen.out, hKl.out])
  clear m5 g5 r5 hh hT5 hfarc hdR x0 hnum w4
  have hgl := Lib.hid h.out.lowG
  have hbl := Lib.hid h.out.lowB
  have hml := Lib.hid h.out.lowM
  clear h hx0
  go_wp2_with fail
  generalize hcx : x.c = c at *
  generalize hkx : x.k = k at *
  refine wp_soft_frameP (RB b (K * 6)) 23 (fun W => NdB W b cap ns) (fun W => NdB W b cap (ns ++ [⟨(c, k), on, rr, dp + 1, fr⟩])) 24 (uad g b K cap on pb dp fr c k rr) (by kernel_rfl) (by kernel_rfl) (fun _ _ _ => RB.trans) (fun _ _ => RB.ext) (fun _ _ h hh => hh.ext h) (fun _ _ h hh => hh.ext h) (by omega) nb5.out rfl (by show List.Nodup [27, 28, 29, 30, 31, 32, 33, 34, 35, 36, 37, 38, 39, 40, 41, 42, 43, 44, 45, 46, 47, 48, 49, 50]; decide) (by show ∀ d ∈ [27, 28, 29, 30, 31, 32, 33, 34, 35, 36, 37, 38, 39, 40, 41, 42, 43, 44, 45, 46, 47, 48, 49, 50], d < 53; decide) (uad_mono g b K cap on pb dp fr c k rr) ?_ ⟨?_, ?_, ?_, ?_, ?_, ?_, ?_, ?_, ?_, ?_, ?_, ?_, ?_, ?_, ?_, ?_, ?_, ?_, ?_, ?_, ?_, ?_, ?_, ?_, trivial⟩
  · intro W vs hT hR hPost
    match vs, hT with
    | [v0, v1, v2, v3, v4, v5, v6, v7, v8, v9, v10, v11, v12, v13, v14, v15, v16, v17, v18, v19, v20, v21, v22, v23], ⟨e0, e1, e2, e3, e4, e5, e6, e7, e8, e9, e10, e11, e12, e13, e14, e15, e16, e17, e18, e19, e20, e21, e22, e23, _⟩ =>
      simp only [uad, List.map_cons, List.map_nil, List.zip_cons_cons, List.zip_nil_left, putAll, List.setIfInBounds_toArray, List.set_cons_zero, List.set_cons_succ, List.drop_succ_cons, List.drop_zero]
      simp only at e0 e1 e2 e3 e4 e5 e6 e7 e8 e9 e10 e11 e12 e13 e14 e15 e16 e17 e18 e19 e20 e21 e23
      obtain ⟨q22, e22, h22⟩ := e22
      rw [e0, e1, e2, e3, e4, e5, e6, e7, e8, e9, e10, e11, e12, e13, e14, e15, e16, e17, e18, e19, e20, e21, e22, e23]
      clear e0 e1 e2 e3 e4 e5 e6 e7 e8 e9 e10 e11 e12 e13 e14 e15 e16 e17 e18 e19 e20 e21 e22 e23 v0 v1 v2 v3 v4 v5 v6 v7 v8 v9 v10 v11 v12 v13 v14 v15 v16 v17 v18 v19 v20 v21 v22 v23
      have box6 := hR.rx.blk box5.out hgb
      have m6 : MapS W mb (numM (l ++ [x])) := m5'.out.kept hR.rx (fun e => hbm (by injection e with e; exact e.symm))
      have e6 := Lib.hid (RX.down e5.out hbl.out hR.rx)
      have f6 := frozen_of_row W g 0 _ _ box6
      have r7 : RX g W (W.setCell ⟨g, 0, none⟩ (.slice (some ⟨b, 0, none⟩) (K + 1) cap)) := RX.set (RX.refl g W) 0 _ (.inr rfl)
      have box7 : (W.setCell ⟨g, 0, none⟩ (.slice (some ⟨b, 0, none⟩) (K + 1) cap)).heap[g]? = some (.cells #[.slice (some ⟨b, 0, none⟩) (K + 1) cap, .map (some mb)] 61 (0, 0)) := heap_setCell_same _ _ 0 _ _ _ box6
      have nb7 := hPost.rx r7 (fun e => hgb e.symm)
      have m7 := m6.kept r7 (fun e => hgm (by injection e with e; exact e.symm))
      have e7 := Lib.hid (RX.down e6.out hgl.out r7)
      have hfin := Lib.hid (show GrO w0 (W.setCell ⟨g, 0, none⟩ (.slice (some ⟨b, 0, none⟩) (K + 1) cap)) g b cap mb (l ++ [x]) (ns ++ [⟨(c, k), on, rr, dp + 1, fr⟩]) from
        ⟨by rw [← hcx, ← hkx]; exact hsn.out, hk, by rw [List.length_append, List.length_singleton, hKl.out]; exact box7, nb7, m7, hgl.out, hbl.out, hml.out, hgb, hgm, hbm⟩)
      have g06 : W.cell? ⟨g, 0, none⟩ = some (.slice (some ⟨b, 0, none⟩) (l.length + 1) cap) := by rw [cell_of_row W g 0 _ _ _ box6]; rfl
      clear hPost r7 box6 m6 e6 box7 nb7 m7 hT h22
      go_wp2
      exact bodyPost_end (v := .tuple #[]) (by simp [results, Try.results28, go_sem]) rfl ⟨rfl, ⟨_, hfin.out⟩, e7.out⟩
  · refine softP_val 27 _ (by kernel_rfl) rfl rfl ?_
    intro a W hx hout hdep
    have ev0 : a.tmps[0]?.getD undef = .pointer (some ⟨g, 0, none⟩) := by rw [← Array.getD_eq_getD_getElem?]; exact hout 0 (by show 0 ∉ [27, 28, 29, 30, 31, 32, 33, 34, 35, 36, 37, 38, 39, 40, 41, 42, 43, 44, 45, 46, 47, 48, 49, 50]; decide)
    refine ⟨rfl, .pointer (some ⟨g, 0, none⟩), W, ?_, rfl, Ext.refl _⟩
    simp [ev0, execOp, go_sem]
  · refine softP_val 28 _ (by kernel_rfl) rfl rfl ?_
    intro a W hx hout hdep
    have ev0 : a.tmps[0]?.getD undef = .pointer (some ⟨g, 0, none⟩) := by rw [← Array.getD_eq_getD_getElem?]; exact hout 0 (by show 0 ∉ [27, 28, 29, 30, 31, 32, 33, 34, 35, 36, 37, 38, 39, 40, 41, 42, 43, 44, 45, 46, 47, 48, 49, 50]; decide)
    refine ⟨rfl, .pointer (some ⟨g, 0, none⟩), W, ?_, rfl, Ext.refl _⟩
    simp [ev0, execOp, go_sem]
  · refine softP_val 29 _ (by kernel_rfl) rfl rfl ?_
    intro a W hx hout hdep
    have ev28 : a.tmps[28]?.getD undef = .pointer (some ⟨g, 0, none⟩) := by rw [← Array.getD_eq_getD_getElem?]; exact (hdep ⟨1, .data⟩ (by simp) rfl 28 _ rfl).1
    refine ⟨rfl, .pointer (some ⟨g, 0, none⟩), W, ?_, rfl, Ext.refl _⟩
    simp [ev28, execOp, go_sem]
  · refine softP_val 30 _ (by kernel_rfl) rfl rfl ?_
    intro a W hx hout hdep
    have ev29 : a.tmps[29]?.getD undef = .pointer (some ⟨g, 0, none⟩) := by rw [← Array.getD_eq_getD_getElem?]; exact (hdep ⟨2, .data⟩ (by simp) rfl 29 _ rfl).1
    refine ⟨rfl, .pointer (some ⟨g, 0, none⟩), W, ?_, rfl, Ext.refl _⟩
    simp [ev29, execOp, go_sem]
  · refine softP_val 31 _ (by kernel_rfl) rfl rfl ?_
    intro a W hx hout hdep
    have ev30 : a.tmps[30]?.getD undef = .pointer (some ⟨g, 0, none⟩) := by rw [← Array.getD_eq_getD_getElem?]; exact (hdep ⟨3, .data⟩ (by simp) rfl 30 _ rfl).1
    have q0 := hx.rx.cell g0 hgb
    refine ⟨rfl, .slice (some ⟨b, 0, none⟩) K cap, W, ?_, rfl, Ext.refl _⟩
    simp [ev30, q0, execOp, go_sem]
  · refine softP_val 32 _ (by kernel_rfl) rfl rfl ?_
    intro a W hx hout hdep
    have ev4 : a.tmps[4]?.getD undef = .pointer (some ⟨pa, 0, none⟩) := by rw [← Array.getD_eq_getD_getElem?]; exact hout 4 (by show 4 ∉ [27, 28, 29, 30, 31, 32, 33, 34, 35, 36, 37, 38, 39, 40, 41, 42, 43, 44, 45, 46, 47, 48, 49, 50]; decide)
    have q0 := hx.rx.cell a0 (by omega)
    have q1 := hx.rx.cell a1 (by omega)
    refine ⟨rfl, .agg #[.int .u32 c, .int .u32 k], W, ?_, rfl, Ext.refl _⟩
    simp [ev4, q0, q1, execOp, go_sem]
  · refine softP_val 33 _ (by kernel_rfl) rfl rfl ?_
    intro a W hx hout hdep
    have ev6 : a.tmps[6]?.getD undef = Vi (on : Int) := by rw [← Array.getD_eq_getD_getElem?]; exact hout 6 (by show 6 ∉ [27, 28, 29, 30, 31, 32, 33, 34, 35, 36, 37, 38, 39, 40, 41, 42, 43, 44, 45, 46, 47, 48, 49, 50]; decide)
    refine ⟨rfl, Vi (on : Int), W, ?_, rfl, Ext.refl _⟩
    simp [ev6, execOp, go_sem]
  · refine softP_val 34 _ (by kernel_rfl) rfl rfl ?_
    intro a W hx hout hdep
    have ev5 : a.tmps[5]?.getD undef = .pointer (some ⟨pb, 0, none⟩) := by rw [← Array.getD_eq_getD_getElem?]; exact hout 5 (by show 5 ∉ [27, 28, 29, 30, 31, 32, 33, 34, 35, 36, 37, 38, 39, 40, 41, 42, 43, 44, 45, 46, 47, 48, 49, 50]; decide)
    refine ⟨rfl, .pointer (some ⟨pb, 2, none⟩), W, ?_, rfl, Ext.refl _⟩
    simp [ev5, execOp, go_sem]
  · refine softP_val 35 _ (by kernel_rfl) rfl rfl ?_
    intro a W hx hout hdep
    have ev34 : a.tmps[34]?.getD undef = .pointer (some ⟨pb, 2, none⟩) := by rw [← Array.getD_eq_getD_getElem?]; exact (hdep ⟨7, .data⟩ (by simp) rfl 34 _ rfl).1
    have q0 := hx.rx.cell a4 (by omega)
    refine ⟨rfl, .bool rr, W, ?_, rfl, Ext.refl _⟩
    simp [ev34, q0, execOp, go_sem]
  · refine softP_val 36 _ (by kernel_rfl) rfl rfl ?_
    intro a W hx hout hdep
    have ev0 : a.tmps[0]?.getD undef = .pointer (some ⟨g, 0, none⟩) := by rw [← Array.getD_eq_getD_getElem?]; exact hout 0 (by show 0 ∉ [27, 28, 29, 30, 31, 32, 33, 34, 35, 36, 37, 38, 39, 40, 41, 42, 43, 44, 45, 46, 47, 48, 49, 50]; decide)
    refine ⟨rfl, .pointer (some ⟨g, 0, none⟩), W, ?_, rfl, Ext.refl _⟩
    simp [ev0, execOp, go_sem]
  · refine softP_val 37 _ (by kernel_rfl) rfl rfl ?_
    intro a W hx hout hdep
    have ev36 : a.tmps[36]?.getD undef = .pointer (some ⟨g, 0, none⟩) := by rw [← Array.getD_eq_getD_getElem?]; exact (hdep ⟨9, .data⟩ (by simp) rfl 36 _ rfl).1
    refine ⟨rfl, .pointer (some ⟨g, 0, none⟩), W, ?_, rfl, Ext.refl _⟩
    simp [ev36, execOp, go_sem]
  · refine softP_val 38 _ (by kernel_rfl) rfl rfl ?_
    intro a W hx hout hdep
    have ev37 : a.tmps[37]?.getD undef = .pointer (some ⟨g, 0, none⟩) := by rw [← Array.getD_eq_getD_getElem?]; exact (hdep ⟨10, .data⟩ (by simp) rfl 37 _ rfl).1
    refine ⟨rfl, .pointer (some ⟨g, 0, none⟩), W, ?_, rfl, Ext.refl _⟩
    simp [ev37, execOp, go_sem]
  · refine softP_val 39 _ (by kernel_rfl) rfl rfl ?_
    intro a W hx hout hdep
    have ev38 : a.tmps[38]?.getD undef = .pointer (some ⟨g, 0, none⟩) := by rw [← Array.getD_eq_getD_getElem?]; exact (hdep ⟨11, .data⟩ (by simp) rfl 38 _ rfl).1
    have q0 := hx.rx.cell g0 hgb
    refine ⟨rfl, .slice (some ⟨b, 0, none⟩) K cap, W, ?_, rfl, Ext.refl _⟩
    simp [ev38, q0, execOp, go_sem]
  · refine softP_val 40 _ (by kernel_rfl) rfl rfl ?_
    intro a W hx hout hdep
    have ev6 : a.tmps[6]?.getD undef = Vi (on : Int) := by rw [← Array.getD_eq_getD_getElem?]; exact hout 6 (by show 6 ∉ [27, 28, 29, 30, 31, 32, 33, 34, 35, 36, 37, 38, 39, 40, 41, 42, 43, 44, 45, 46, 47, 48, 49, 50]; decide)
    refine ⟨rfl, Vi (on : Int), W, ?_, rfl, Ext.refl _⟩
    simp [ev6, execOp, go_sem]
  · refine softP_val 41 _ (by kernel_rfl) rfl rfl ?_
    intro a W hx hout hdep
    have ev39 : a.tmps[39]?.getD undef = .slice (some ⟨b, 0, none⟩) K cap := by rw [← Array.getD_eq_getD_getElem?]; exact (hdep ⟨12, .data⟩ (by simp) rfl 39 _ rfl).1
    have ev40 : a.tmps[40]?.getD undef = Vi (on : Int) := by rw [← Array.getD_eq_getD_getElem?]; exact (hdep ⟨13, .data⟩ (by simp) rfl 40 _ rfl).1
    refine ⟨rfl, .pointer (some ⟨b, on * 6, none⟩), W, ?_, rfl, Ext.refl _⟩
    simp [ev39, ev40, hi1, hi2, execOp, go_sem]
  · refine softP_val 42 _ (by kernel_rfl) rfl rfl ?_
    intro a W hx hout hdep
    have ev41 : a.tmps[41]?.getD undef = .pointer (some ⟨b, on * 6, none⟩) := by rw [← Array.getD_eq_getD_getElem?]; exact (hdep ⟨14, .data⟩ (by simp) rfl 41 _ rfl).1
    refine ⟨rfl, .pointer (some ⟨b, on * 6 + 4, none⟩), W, ?_, rfl, Ext.refl _⟩
    simp [ev41, execOp, go_sem]
  · refine softP_val 43 _ (by kernel_rfl) rfl rfl ?_
    intro a W hx hout hdep
    have ev42 : a.tmps[42]?.getD undef = .pointer (some ⟨b, on * 6 + 4, none⟩) := by rw [← Array.getD_eq_getD_getElem?]; exact (hdep ⟨15, .data⟩ (by simp) rfl 42 _ rfl).1
    have q0 := hx.low _ _ hon4 d4
    refine ⟨rfl, Vi (dp : Int), W, ?_, rfl, Ext.refl _⟩
    simp [ev42, q0, execOp, go_sem]
  · refine softP_val 44 _ (by kernel_rfl) rfl rfl ?_
    intro a W hx hout hdep
    have ev43 : a.tmps[43]?.getD undef = Vi (dp : Int) := by rw [← Array.getD_eq_getD_getElem?]; exact (hdep ⟨16, .data⟩ (by simp) rfl 43 _ rfl).1
    refine ⟨rfl, Vi ((dp + 1 : Nat) : Int), W, ?_, rfl, Ext.refl _⟩
    simp [ev43, hw1, hw2, execOp, go_sem]
  · refine softP_val 45 _ (by kernel_rfl) rfl rfl ?_
    intro a W hx hout hdep
    have ev0 : a.tmps[0]?.getD undef = .pointer (some ⟨g, 0, none⟩) := by rw [← Array.getD_eq_getD_getElem?]; exact hout 0 (by show 0 ∉ [27, 28, 29, 30, 31, 32, 33, 34, 35, 36, 37, 38, 39, 40, 41, 42, 43, 44, 45, 46, 47, 48, 49, 50]; decide)
    refine ⟨rfl, .pointer (some ⟨g, 0, none⟩), W, ?_, rfl, Ext.refl _⟩
    simp [ev0, execOp, go_sem]
  · refine softP_val 46 _ (by kernel_rfl) rfl rfl ?_
    intro a W hx hout hdep
    have ev6 : a.tmps[6]?.getD undef = Vi (on : Int) := by rw [← Array.getD_eq_getD_getElem?]; exact hout 6 (by show 6 ∉ [27, 28, 29, 30, 31, 32, 33, 34, 35, 36, 37, 38, 39, 40, 41, 42, 43, 44, 45, 46, 47, 48, 49, 50]; decide)
    refine ⟨rfl, Vi (on : Int), W, ?_, rfl, Ext.refl _⟩
    simp [ev6, execOp, go_sem]
  · refine softP_call 47 _ (by kernel_rfl) rfl rfl ?_
    intro a W hx hout hdep
    have ev45 : a.tmps[45]?.getD undef = .pointer (some ⟨g, 0, none⟩) := by rw [← Array.getD_eq_getD_getElem?]; exact (hdep ⟨18, .data⟩ (by simp) rfl 45 _ rfl).1
    have ev46 : a.tmps[46]?.getD undef = Vi (on : Int) := by rw [← Array.getD_eq_getD_getElem?]; exact (hdep ⟨19, .data⟩ (by simp) rfl 46 _ rfl).1
    refine ⟨rfl, 34, #[.pointer (some ⟨g, 0, none⟩), Vi (on : Int)], ?_, ?_⟩
    · simp [ev45, ev46, execOp, go_sem]
    · exact (hfar.out W hx).mono (by rintro e W1 ⟨rfl, h1⟩; exact ⟨_, rfl, rfl, h1⟩)
  · refine softP_val 48 _ (by kernel_rfl) rfl rfl ?_
    intro a W hx hout hdep
    have ev32 : a.tmps[32]?.getD undef = .agg #[.int .u32 c, .int .u32 k] := by rw [← Array.getD_eq_getD_getElem?]; exact (hdep ⟨5, .data⟩ (by simp) rfl 32 _ rfl).1
    have ev33 : a.tmps[33]?.getD undef = Vi (on : Int) := by rw [← Array.getD_eq_getD_getElem?]; exact (hdep ⟨6, .data⟩ (by simp) rfl 33 _ rfl).1
    have ev35 : a.tmps[35]?.getD undef = .bool rr := by rw [← Array.getD_eq_getD_getElem?]; exact (hdep ⟨8, .data⟩ (by simp) rfl 35 _ rfl).1
    have ev44 : a.tmps[44]?.getD undef = Vi ((dp + 1 : Nat) : Int) := by rw [← Array.getD_eq_getD_getElem?]; exact (hdep ⟨17, .data⟩ (by simp) rfl 44 _ rfl).1
    have ev47 : a.tmps[47]?.getD undef = Vi (fr : Int) := by rw [← Array.getD_eq_getD_getElem?]; exact (hdep ⟨20, .data⟩ (by simp) rfl 47 _ rfl).1
    refine ⟨rfl, ndv c k (on : Int) rr ((dp + 1 : Nat) : Int) (fr : Int), W, ?_, rfl, Ext.refl _⟩
    simp [ev32, ev33, ev35, ev44, ev47, execOp, go_sem]
  · refine softP_val 49 _ (by kernel_rfl) rfl rfl ?_
    intro a W hx hout hdep
    have ev48 : a.tmps[48]?.getD undef = ndv c k (on : Int) rr ((dp + 1 : Nat) : Int) (fr : Int) := by rw [← Array.getD_eq_getD_getElem?]; exact (hdep ⟨21, .data⟩ (by simp) rfl 48 _ rfl).1
    have hlt : b < W.heap.size := Nat.lt_of_lt_of_le nb5.out.lt hx.rx.size
    refine ⟨rfl, .slice (some ⟨W.heap.size, 0, none⟩) 1 1, _, ?_, ⟨_, rfl, by omega, NdB.new W ⟨(c, k), on, rr, dp + 1, fr⟩⟩, (Ext.refl W).alloc _⟩
    simp [ev48, execOp, go_sem]
  · refine softC_val 50 _ (by kernel_rfl) rfl rfl ?_
    intro a W hx hpre hout hdep
    have ev31 : a.tmps[31]?.getD undef = .slice (some ⟨b, 0, none⟩) K cap := by rw [← Array.getD_eq_getD_getElem?]; exact (hdep ⟨4, .data⟩ (by simp) rfl 31 _ rfl).1
    have tl49 := (hdep ⟨22, .data⟩ (by simp) rfl 49 _ rfl).1
    obtain ⟨q, hq1, hq2, hq3⟩ := tl49
    obtain ⟨W1, hr1, hr2, hr3⟩ := app_N W 58 b cap K ns hnl.out hpre hroom q 1 ⟨(c, k), on, rr, dp + 1, fr⟩ hq3.row
    refine ⟨rfl, .slice (some ⟨b, 0, none⟩) (K + 1) cap, W1, ?_, rfl, RB.of hr3 hpre hr2 (by rw [hnl.out]), hr2⟩
    rw [← Array.getD_eq_getD_getElem?] at ev31
    simp only [execOp, resolve, invoke, builtin, Sem.run_bind, Sem.run_pure, Result.andThen_ok, List.map_toArray, List.map_cons, List.map_nil, Act.eval, ev31, hq1, hr1]

end Go.Proofs.Ytnocdfmmhnnbeaa
