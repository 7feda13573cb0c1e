/-
  Several texts of this seat in one file, each in the namespace again; no claim stands here.
-/
import Derived.Deep.DeepCutAuto
import Derived.Deep.CutBlock
import Derived.Deep.Cut
import Derived.IntWalk
import Derived.Test.YtdpmhhfpjpdfiaaDT
import Derived.Test.YtdpmhhfpjpdfiaaDL
import Derived.Test.YtdpmhhfpjpdfiaaDR
import Derived.Test.YtdpmhhfpjpdfiaaDN
import Derived.Test.YtdpmhhfpjpdfiaaDM
import Derived.Test.YtdpmhhfpjpdfiaaTKnown
namespace Go.Proofs.Ytdpmhhfpjpdfiaa
open Go.ChangeShapes Go.WideShapes Go.ChangeAt Go.RowKit Go.Sort
set_option linter.unusedVariables false
set_option linter.unusedSimpArgs false
attribute [local go_sem] World.cell?_alloc_some

theorem Vec.grown {W W' : World} {A : Option Addr} {V : List (Int × Int)} {row : Option Nat} (h : Vec W A V) (hg : W.grownBy W' row) (hne : ∀ k, row = some k → ∀ b o, A = some ⟨b, o, none⟩ → b ≠ k) : Vec W' A V := fun h0 => by
  obtain ⟨b, o, e, hc⟩ := h h0
  refine ⟨b, o, e, fun j u hu => ?_⟩
  have := hc j u hu
  rw [World.cell?_of_block (w := W) (w' := W') (a := ⟨b, o + j, none⟩) (World.grownBy.block hg b (World.block_lt_of_cell? _ _ this) (fun e' => hne b e'.symm b o e rfl))]
  exact this
theorem Vec.low {W : World} {A : Option Addr} {V : List (Int × Int)} (h : Vec W A V) : V = [] ∨ ∀ b o, A = some ⟨b, o, none⟩ → b < W.heap.size := by
  cases V with
  | nil => exact .inl rfl
  | cons p V =>
    refine .inr fun b o e => ?_
    obtain ⟨b', o', e', hc⟩ := h (by simp [flat, encC])
    have := World.block_lt_of_cell? _ _ (hc 0 (Vu p.1) (by simp [flat, encC]))
    rw [e] at e'
    injection e' with e'
    injection e' with e1 _ _
    rw [e1]; exact this

end Go.Proofs.Ytdpmhhfpjpdfiaa

namespace Go.Proofs.Ytdpmhhfpjpdfiaa
open Go.ChangeShapes Go.WideShapes Go.ChangeAt Go.RowKit Go.Sort
set_option linter.unusedVariables false
set_option linter.unusedSimpArgs false
attribute [local go_sem] World.cell?_alloc_some
attribute [local go_sem ↓] id_eql

end Go.Proofs.Ytdpmhhfpjpdfiaa

namespace Go.Proofs.Ytdpmhhfpjpdfiaa
open Go.ChangeShapes Go.WideShapes Go.ChangeAt Go.RowKit Go.Sort
set_option linter.unusedVariables false
set_option linter.unusedSimpArgs false
attribute [local go_sem] World.cell?_alloc_some

def wfIs (l : List It) : Prop := ∀ x ∈ l, wfI x
theorem wfIs.at {l : List It} (h : wfIs l) {k : Nat} {x : It} (hx : l[k]? = some x) : wfI x := h x (List.mem_of_getElem? hx)

structure ItG (w : World) (b o : Nat) (x : It) : Prop where
  c0 : ∀ d os, (grow (redrawn w d) os).cell? ⟨b, o, none⟩ = some (Vu x.c)
  c1 : ∀ d os, (grow (redrawn w d) os).cell? ⟨b, o + 1, none⟩ = some (Vu x.k)
  c2 : ∀ d os, (grow (redrawn w d) os).cell? ⟨b, o + 2, none⟩ = some (Vu x.lc)
  c3 : ∀ d os, (grow (redrawn w d) os).cell? ⟨b, o + 3, none⟩ = some (Vu x.lk)
  c4 : ∀ d os, (grow (redrawn w d) os).cell? ⟨b, o + 4, none⟩ = some (Vu x.rc)
  c5 : ∀ d os, (grow (redrawn w d) os).cell? ⟨b, o + 5, none⟩ = some (Vu x.rk)
  c6 : ∀ d os, (grow (redrawn w d) os).cell? ⟨b, o + 6, none⟩ = some (.int .i32 x.ch)
theorem ItC.regrown {w : World} {b o : Nat} {x : It} (h : ItC w b o x) : ItG w b o x := ⟨cell_regrown h.c0, cell_regrown h.c1, cell_regrown h.c2, cell_regrown h.c3, cell_regrown h.c4, cell_regrown h.c5, cell_regrown h.c6⟩

end Go.Proofs.Ytdpmhhfpjpdfiaa

namespace Go.Proofs.Ytdpmhhfpjpdfiaa
open Go.ChangeShapes Go.WideShapes Go.ChangeAt Go.RowKit Go.Sort
set_option linter.unusedVariables false
set_option linter.unusedSimpArgs false
attribute [local go_sem] World.cell?_alloc_some

theorem item_neq (a b c d e f g : Int) (W : World) : (binOp .neq 32 (.agg #[.int .u32 a, .int .u32 b, .int .u32 c, .int .u32 d, .int .u32 e, .int .u32 f, .int .i32 g]) (.agg #[.int .u32 a, .int .u32 b, .int .u32 c, .int .u32 d, .int .u32 e, .int .u32 f, .int .i32 g])).run Try.prog W = .ok (.bool false) W := by
  simp [go_sem]
set_option maxRecDepth 100000 in
set_option maxHeartbeats 2000000 in
theorem sameI_any (A B : Option Addr) (n cap cap' : Nat) (l : List It) (w : World) (hv : ItS w A l) (hu : ItS w B l) (hn : l.length = n) (hb : n ≤ 100000) :
    Calls Try.prog 12 #[.slice A n cap, .slice B n cap'] w fun e w' => e = .returned (.bool true) ∧ Ext w w' := by
  replace hn := Lib.hid hn
  replace hv := Lib.hid hv
  replace hu := Lib.hid hu
  go_enter Try.func12, Try.ntmps12
  go_wp2
  go_loopw [5] (fun i W => ∃ (k : Nat), k ≤ n ∧ i = .int .i64 k ∧ Ext w W) (fun i _ => n - (intOf i).toNat)
  case atStart => exact ⟨0, Nat.zero_le _, rfl, Ext.refl _⟩
  case round =>
    obtain ⟨k, hk, rfl, hx⟩ := hrel
    by_cases hlt : k < n
    · obtain ⟨b, o, x, rfl, hp, c⟩ := (hv.out.ext hx).at (k := k) (by rw [hn.out]; exact hlt)
      obtain ⟨b', o', x', rfl, hp', c'⟩ := (hu.out.ext hx).at (k := k) (by rw [hn.out]; exact hlt)
      rw [hp] at hp'
      injection hp' with hp'
      subst hp'
      clear hp
      obtain ⟨c0, c1, c2, c3, c4, c5, c6⟩ := c
      obtain ⟨d0, d1, d2, d3, d4, d5, d6⟩ := c'
      have hnq := item_neq x.c x.k x.lc x.lk x.rc x.rk x.ch
      go_wp2
      go_quiet (fail)
      go_wp2
      go_roundw
      case rel => exact ⟨k + 1, by omega, by go_num, hx.drewN _⟩
      case measure => simp [intOf]; omega
    · go_wp2
      go_ret
      exact ⟨rfl, hx⟩

end Go.Proofs.Ytdpmhhfpjpdfiaa

namespace Go.Proofs.Ytdpmhhfpjpdfiaa
open Go.ChangeShapes Go.WideShapes Go.ChangeAt Go.RowKit Go.Sort
set_option linter.unusedVariables false
set_option linter.unusedSimpArgs false
attribute [local go_sem] World.cell?_alloc_some

set_option maxHeartbeats 1000000 in
theorem mayRef_big (A : Option Addr) (n cap : Nat) (l : List (Int × Int)) (w : World) (hv : Vec w A l) (hn : l.length = n) (hw : wfC l) (hb : n ≤ 9223372036854775807) :
    Calls Try.prog 6 #[.slice A n cap] w fun e w' => e = .returned (.bool (mayFrom 0 l)) ∧ Ext w w' := by
  replace hn := Lib.hid hn
  replace hv := Lib.hid hv
  replace hw := Lib.hid hw
  go_enter Try.func6, Try.ntmps6
  go_wp2
  go_loopw [3] (fun i W => ∃ (k : Nat), k ≤ n ∧ i = .int .i64 k ∧ Hid (mayFrom 0 l = mayFrom (ahead l k) (l.drop k)) ∧ Ext w W) (fun i _ => n - (intOf i).toNat)
  case atStart => exact ⟨0, Nat.zero_le _, rfl, Lib.hid (by simp [ahead]), Ext.refl _⟩
  case round =>
    obtain ⟨k, hk, rfl, hrel, hx⟩ := hrel
    by_cases hlt : k < n
    · obtain ⟨b, o, x, y, rfl, hp, c0, c1⟩ := (hv.out.ext hx).at (k := k) (by rw [hn.out]; exact hlt)
      have hwf := wf_at hw.out hp
      have ha := ahead_nonneg hw.out k
      by_cases h0 : x = 0
      · subst h0
        have hd := Lib.hid (show mayFrom (ahead l k) (l.drop k) = false by rw [may_drop hp, decide_eq_false (by omega), Bool.false_and])
        clear hp ha
        go_wp2
        go_ret
        exact ⟨ret_bool (a := false) (by rw [hrel.out, hd.out]), hx⟩
      · have h0' : (x == 0) = false := by simpa using h0
        by_cases h1 : y = 0
        · subst h1
          have hd := Lib.hid (show mayFrom (ahead l k) (l.drop k) = false by rw [may_drop hp, decide_eq_false (by omega), Bool.false_and])
          clear hp ha
          go_wp2
          go_ret
          exact ⟨ret_bool (a := false) (by rw [hrel.out, hd.out]), hx⟩
        · have h1' : (y == 0) = false := by simpa using h1
          cases k with
          | zero =>
            have hd := Lib.hid (show mayFrom (ahead l 0) (l.drop 0) = mayFrom (ahead l (0 + 1)) (l.drop (0 + 1)) by rw [may_drop hp, decide_eq_true (by simp only [ahead]; omega), Bool.true_and, ahead_succ hp])
            clear hp ha h0 h1
            simp only [Nat.zero_mul, Nat.add_zero] at c0 c1
            go_wp2
            go_quiet (fail)
            go_wp2
            go_roundw
            case rel => exact ⟨0 + 1, by omega, by go_num, Lib.hid (by rw [hrel.out, hd.out]), hx.drewN _⟩
            case measure => simp [intOf]; omega
          | succ k =>
            obtain ⟨b', o', x', y', e, hq, c0', c1'⟩ := (hv.out.ext hx).at (k := k) (by rw [hn.out]; omega)
            injection e with e
            injection e with e1 e2
            subst e1
            subst e2
            have hah := Lib.hid (ahead_succ hq)
            have hsub : IntKind.i64.wrap (((k + 1 : Nat) : Int) - 1) = (k : Int) := by rw [show (((k + 1 : Nat) : Int) - 1) = (k : Int) by omega]; exact IntWalk.i64_in _ (by omega)
            have hi1 : (0 : Int) ≤ (k : Int) := by omega
            have hi2 : (k : Int) < (n : Int) := by omega
            have hg : decide ((0 : Int) < ((k + 1 : Nat) : Int)) = true := by simp
            by_cases hxx : x ≤ x'
            · have hd := Lib.hid (show mayFrom (ahead l (k + 1)) (l.drop (k + 1)) = false by rw [may_drop hp, hah.out, decide_eq_false (by omega), Bool.false_and])
              clear hp hq ha h0 h1 c1'
              go_wp2
              go_quiet (fail)
              go_wp2
              go_ret
              exact ⟨ret_bool (a := false) (by rw [hrel.out, hd.out]), hx.drewN _⟩
            · have hd := Lib.hid (show mayFrom (ahead l (k + 1)) (l.drop (k + 1)) = mayFrom (ahead l (k + 1 + 1)) (l.drop (k + 1 + 1)) by rw [may_drop hp, hah.out, decide_eq_true (by omega), Bool.true_and, ahead_succ hp])
              have hle : decide (x ≤ x') = false := by simpa using hxx
              clear hp hq ha h0 h1 c1' hxx
              go_wp2
              go_quiet (fail)
              go_wp2
              go_roundw
              case rel => exact ⟨k + 1 + 1, by omega, by go_num, Lib.hid (by rw [hrel.out, hd.out]), hx.drewN _⟩
              case measure => simp [intOf]; omega
    · have hz := Lib.hid (show mayFrom (ahead l k) (l.drop k) = true from may_end (by rw [hn.out]; omega) _)
      go_wp2
      go_ret
      exact ⟨ret_bool (a := true) (by rw [hrel.out, hz.out]), hx⟩

def RetTq (w : World) (t : List It × List It × List (Int × Int)) (e : Ending) (w' : World) : Prop :=
  ∃ (Aa : Option Addr) (ca : Nat) (Ab : Option Addr) (cb : Nat) (A : Option Addr) (c : Nat), e = .returned (.tuple #[.slice Aa t.1.length ca, .slice Ab t.2.1.length cb, .slice A t.2.2.length c]) ∧ t.1.length ≤ ca ∧ t.2.1.length ≤ cb ∧ t.2.2.length ≤ c ∧ ItS w' Aa t.1 ∧ ItS w' Ab t.2.1 ∧ Vec w' A t.2.2 ∧ Ext w w'
structure PdK : Prop where
  ready : ∀ (A : Option Addr) (n cap : Nat) (V : List (Int × Int)) (x : It) (W : World), Vec W A V → V.length = n → n ≤ cap → mayFrom 0 V = true → wfC V → n ≤ 900 → wfI x → okW x →
    Calls Try.prog 8 #[.slice A n cap, itv x] W fun e w' => e = .returned (.bool (rdyI V x)) ∧ Ext W w'
  take : ∀ (A B : Option Addr) (n cap m capm : Nat) (V : List (Int × Int)) (L : List It) (W : World), Vec W A V → V.length = n → n ≤ cap → mayFrom 0 V = true → wfC V → ItS W B L → L.length = m → m ≤ capm → n + m ≤ 900 → apartI L → (∀ x ∈ L, wfI x ∧ okW x ∧ nextOf V x.c ≤ x.k) →
    Calls Try.prog 10 #[.slice A n cap, .slice B m capm] W (RetTq W (takeI V L))

def l10a : It := ⟨1, 1, 0, 0, 0, 0, 0⟩
def l10b : It := ⟨1, 0, 0, 0, 0, 0, 0⟩
theorem take10 : takeI [] [l10a, l10b] = ([l10b, l10a], [], [(1, 2)]) := by rfl
theorem ItS.newP {W : World} {s : Nat} (cs : Array Value) (l : List It) (hl : cs.toList = flat encI l) (h : W.heap.size = s) : ItS (W.alloc (.cells cs 32)) (some ⟨s, 0, none⟩) l := by
  unfold ItS
  rw [← hl, ← h]
  exact Row.new W cs 32
theorem BoxI.cellsP {W : World} {q : Nat} {x : It} (h : BoxI W q x) : W.cell? ⟨q, 0, none⟩ = some (Vu x.c) ∧ W.cell? ⟨q, 1, none⟩ = some (Vu x.k) ∧ W.cell? ⟨q, 2, none⟩ = some (Vu x.lc) ∧ W.cell? ⟨q, 3, none⟩ = some (Vu x.lk) ∧ W.cell? ⟨q, 4, none⟩ = some (Vu x.rc) ∧ W.cell? ⟨q, 5, none⟩ = some (Vu x.rk) ∧ W.cell? ⟨q, 6, none⟩ = some (.int .i32 x.ch) := by
  have h' := h.cells
  exact ⟨by simpa using h'.c0, by simpa using h'.c1, by simpa using h'.c2, by simpa using h'.c3, by simpa using h'.c4, by simpa using h'.c5, by simpa using h'.c6⟩

set_option maxRecDepth 100000 in
set_option maxHeartbeats 4000000 in
theorem up10_any (K : PdK) (w : World) : Calls Try.prog 5 #[] w fun e w' => e = .returned (.bool true) ∧ Ext w w' := by
  go_enter Try.func5, Try.ntmps5
  go_wp2_with fail
  have ok10 : ∀ x ∈ [l10a, l10b], wfI x ∧ okW x ∧ nextOf [] x.c ≤ x.k := fun x hx => by
    simp only [List.mem_cons, List.not_mem_nil, or_false] at hx
    rcases hx with rfl | rfl <;> (refine ⟨?_, ?_, ?_⟩ <;> simp [wfI, okW, nextOf, l10a, l10b])
  have ap10 : apartI [l10a, l10b] := by simp [apartI, iid, l10a, l10b]
  have wf0 : wfC [] := fun p hp => by cases hp
  have xa : Ext w (w.alloc (.cells #[.int .u32 1, .int .u32 1, .int .u32 0, .int .u32 0, .int .u32 0, .int .u32 0, .int .i32 0] 32)) := (Ext.refl _).alloc _
  have ba : BoxI (w.alloc (.cells #[.int .u32 1, .int .u32 1, .int .u32 0, .int .u32 0, .int .u32 0, .int .u32 0, .int .i32 0] 32)) w.heap.size l10a := heap_alloc_new w _
  have hsz : (w.alloc (.cells #[.int .u32 1, .int .u32 1, .int .u32 0, .int .u32 0, .int .u32 0, .int .u32 0, .int .i32 0] 32)).heap.size = w.heap.size + 1 := by simp
  generalize w.alloc (.cells #[.int .u32 1, .int .u32 1, .int .u32 0, .int .u32 0, .int .u32 0, .int .u32 0, .int .i32 0] 32) = wa at *
  rw [← hsz]
  have xb : Ext wa (wa.alloc (.cells #[.int .u32 1, .int .u32 0, .int .u32 0, .int .u32 0, .int .u32 0, .int .u32 0, .int .i32 0] 32)) := (Ext.refl _).alloc _
  have bb : BoxI (wa.alloc (.cells #[.int .u32 1, .int .u32 0, .int .u32 0, .int .u32 0, .int .u32 0, .int .u32 0, .int .i32 0] 32)) wa.heap.size l10b := heap_alloc_new wa _
  have hsz2 : (wa.alloc (.cells #[.int .u32 1, .int .u32 0, .int .u32 0, .int .u32 0, .int .u32 0, .int .u32 0, .int .i32 0] 32)).heap.size = wa.heap.size + 1 := by simp
  generalize wa.alloc (.cells #[.int .u32 1, .int .u32 0, .int .u32 0, .int .u32 0, .int .u32 0, .int .u32 0, .int .i32 0] 32) = wb at *
  rw [← hsz2]
  have t := K.take none (some ⟨wb.heap.size, 0, none⟩) 0 0 2 2 [] [l10a, l10b] _ (Vec.nil _ _) rfl (Nat.le_refl _) rfl wf0 (ItS.newP (W := wb) _ [l10a, l10b] rfl rfl) rfl (Nat.le_refl _) (by omega) ap10 ok10
  rw [take10] at t
  refine t.mono ?_
  rintro e w1 ⟨Aa, ca, Ab, cb, A, c, rfl, h1, h2, h3, hI, _, hV, x1⟩
  replace x1 := ((Ext.refl wb).alloc _).trans x1
  replace ba := Lib.hid ((ba.ext xb).ext x1)
  replace bb := Lib.hid (bb.ext x1)
  have hX := (xa.trans xb).trans x1
  clear t xa xb x1 hsz hsz2
  generalize w.heap.size = pa at *
  generalize wa.heap.size = pb at *
  obtain ⟨a0, a1, a2, a3, a4, a5, a6⟩ := ba.out.cellsP
  obtain ⟨b0, b1, b2, b3, b4, b5, b6⟩ := bb.out.cellsP
  replace hI := Lib.hid hI
  replace hV := Lib.hid hV
  replace hX := Lib.hid hX
  go_wp2_with fail
  refine (K.ready none 0 0 [] l10b w1 (Vec.nil _ _) rfl (Nat.le_refl _) rfl wf0 (by omega) (ok10 l10b (by simp)).1 (ok10 l10b (by simp)).2.1).mono ?_
  rintro e w2 ⟨rfl, x2⟩
  rw [show rdyI [] l10b = true from rfl]
  replace a0 := x2.keep a0
  replace a1 := x2.keep a1
  replace a2 := x2.keep a2
  replace a3 := x2.keep a3
  replace a4 := x2.keep a4
  replace a5 := x2.keep a5
  replace a6 := x2.keep a6
  clear b0 b1 b2 b3 b4 b5 b6
  go_wp2_with fail
  refine (K.ready none 0 0 [] l10a w2 (Vec.nil _ _) rfl (Nat.le_refl _) rfl wf0 (by omega) (ok10 l10a (by simp)).1 (ok10 l10a (by simp)).2.1).mono ?_
  rintro e w3 ⟨rfl, x3⟩
  rw [show rdyI [] l10a = false from rfl]
  have x13 := x2.trans x3
  clear a0 a1 a2 a3 a4 a5 a6
  obtain ⟨a0, a1, a2, a3, a4, a5, a6⟩ := (ba.out.ext x13).cellsP
  obtain ⟨b0, b1, b2, b3, b4, b5, b6⟩ := (bb.out.ext x13).cellsP
  go_wp2_with fail
  refine (sameI_any Aa _ 2 ca 2 [l10b, l10a] _ (hI.out.ext (x13.alloc _)) (ItS.newP (W := w3) _ [l10b, l10a] rfl rfl) rfl (by omega)).mono ?_
  rintro e w4 ⟨rfl, x4⟩
  replace x4 := (x13.alloc _).trans x4
  go_wp2_with fail
  refine (nextRef_any A 1 c [(1, 2)] 1 w4 (hV.out.ext x4) rfl (by omega)).mono ?_
  rintro e w5 ⟨rfl, rfl⟩
  rw [show nextOf [(1, 2)] 1 = 2 from rfl]
  go_wp2
  go_ret
  exact ⟨rfl, hX.out.trans x4⟩

end Go.Proofs.Ytdpmhhfpjpdfiaa

namespace Go.Proofs.Ytdpmhhfpjpdfiaa
open Go.ChangeShapes Go.WideShapes Go.ChangeAt Go.RowKit Go.Sort Go.Maps
set_option linter.unusedVariables false
set_option linter.unusedSimpArgs false
set_option linter.unusedSimpArgs false
attribute [local go_sem] World.cell?_alloc_some

def VecT (W : World) (v : Value) (V : List (Int × Int)) : Prop := ∃ A c, v = .slice A V.length c ∧ V.length ≤ c ∧ Vec W A V
theorem VecT.ext {W W' : World} {v : Value} {V : List (Int × Int)} (h : VecT W v V) (hx : Ext W W') : VecT W' v V := by
  obtain ⟨A, c, h1, h2, h3⟩ := h
  exact ⟨A, c, h1, h2, h3.ext hx⟩
theorem tak_wf : ∀ (n : Nat) {v : List (Int × Int)} {l : List It}, wfC v → (∀ x ∈ l, okW x) → wfC (takR n v l).2.2
  | 0, v, l, h, _ => h
  | n + 1, v, l, h, ho => by
    cases hf : fstR v l with
    | none => rw [tak_none hf]; exact h
    | some q =>
      obtain ⟨x, r⟩ := q
      rw [tak_some hf]
      obtain ⟨a, b, e1, e2, _, _⟩ := fst_some hf
      have hx := ho x (by rw [e1]; simp)
      refine tak_wf n (set_wf h (by have := hx.1; omega) hx.2.1 (by have := hx.2.2.1; omega) (by have := hx.2.2.2; omega)) fun y hy => ho y ?_
      rw [e2] at hy
      rw [e1]
      rcases List.mem_append.1 hy with h1 | h1
      · simp [h1]
      · simp [h1]
def pkq0 (W1 : World) (A : Option Addr) (n cap bS pt : Nat) (vo : Value) (O : List It) (Vf : List (Int × Int)) : SoftTab := [(13, fun z9 W => z9 = .pointer (some ⟨pt, 0, none⟩)),
  (14, fun z9 W => z9 = .pointer (some ⟨pt, 0, none⟩)),
  (15, fun z9 W => z9 = .pointer (some ⟨pt, 4, none⟩)),
  (16, fun z9 W => z9 = vo),
  (17, fun z9 W => z9 = .pointer (some ⟨pt, 0, none⟩)),
  (18, fun z9 W => ∃ v9, z9 = v9 ∧ OwnI W1 W v9 O),
  (19, fun z9 W => z9 = .pointer (some ⟨pt, 0, none⟩)),
  (20, fun z9 W => z9 = .pointer (some ⟨pt, 0, none⟩)),
  (21, fun z9 W => z9 = .pointer (some ⟨pt, 0, none⟩)),
  (22, fun z9 W => z9 = knv A n cap (some bS)),
  (23, fun z9 W => ∃ v9, z9 = v9 ∧ VecT W v9 Vf)]
theorem pkq0_mono (W1 : World) (A : Option Addr) (n cap bS pt : Nat) (vo : Value) (O : List It) (Vf : List (Int × Int)) (Rel : World → World → Prop) (hR : ∀ W W', Rel W W' → Ext W W') : SoftMonoR Rel (pkq0 W1 A n cap bS pt vo O Vf) := by
  intro p hp v W W' h hx
  simp only [pkq0, List.mem_cons, List.not_mem_nil, or_false] at hp
  rcases hp with rfl | rfl | rfl | rfl | rfl | rfl | rfl | rfl | rfl | rfl | rfl
  all_goals first
    | exact h
    | exact (by obtain ⟨q, h1, h2⟩ := h; first | exact ⟨q, h1, OwnI.ext h2 (hR _ _ hx)⟩ | exact ⟨q, h1, VecT.ext h2 (hR _ _ hx)⟩)

set_option maxRecDepth 100000 in
set_option maxHeartbeats 8000000 in
theorem take_holds (A B : Option Addr) (n cap m capm : Nat) (V : List (Int × Int)) (L : List It) (w0 : World) (hv : Vec w0 A V) (hn : V.length = n) (hnc : n ≤ cap) (hmV : mayFrom 0 V = true) (hwV : wfC V) (hL : ItS w0 B L) (hm : L.length = m) (hmc : m ≤ capm) (hb : n + m ≤ 900) (hap : apartI L) (hwf : ∀ x ∈ L, wfI x ∧ okW x ∧ nextOf V x.c ≤ x.k) :
    Calls Try.prog 10 #[.slice A n cap, .slice B m capm] w0 (RetTq w0 (takeI V L)) := by
  obtain ⟨Xs, hXe⟩ : ∃ Xs, sortI [] L = Xs := ⟨_, rfl⟩
  have hpm : Xs.Perm L := by rw [← hXe]; simpa using sort_perm L []
  have hXl : Xs.length = m := by rw [hpm.length_eq]; exact hm
  have hwX : ∀ x ∈ Xs, wfI x ∧ okW x ∧ nextOf V x.c ≤ x.k := fun x hx => hwf x (hpm.mem_iff.1 hx)
  have hapX : ∀ (i j : Nat) (x y : It), Xs[i]? = some x → Xs[j]? = some y → iid x = iid y → i = j := fun i j x y hi hj e => by
    have ha := apart_perm hpm.symm hap
    obtain ⟨l1, e1⟩ := List.getElem?_eq_some_iff.1 hi
    obtain ⟨l2, e2⟩ := List.getElem?_eq_some_iff.1 hj
    rcases Nat.lt_trichotomy i j with h | h | h
    · exact absurd e (by have := List.pairwise_iff_getElem.1 ha i j l1 l2 h; rw [e1, e2] at this; exact this)
    · exact h
    · exact absurd e.symm (by have := List.pairwise_iff_getElem.1 ha j i l2 l1 h; rw [e1, e2] at this; exact this)
  obtain ⟨Fr, hFr⟩ : ∃ Fr, takeI V L = Fr := ⟨_, rfl⟩
  have hFr2 : takR Xs.length V Xs = Fr := by rw [← hFr, ← hXe]; unfold takeI; rw [sort_len]
  have hwF : wfC Fr.2.2 := by rw [← hFr2]; exact tak_wf _ hwV fun x hx => (hwX x hx).2.1
  have hnew := Lib.hid (newT_any A B n cap m capm V L w0 hv hn (by omega) hmV hL hm (by omega) hap (fun x hx => (hwf x hx).1))
  rw [hXe] at hnew
  rw [hFr]
  have hC1 : Fr.1.length ≤ Xs.length := by
    have h1 := (tak_is Xs.length V Xs (Nat.le_refl _)).2.1.length_eq
    rw [hFr2, List.length_append] at h1
    omega
  replace hn := Lib.hid hn
  replace hXl := Lib.hid hXl
  replace hwX := Lib.hid hwX
  replace hapX := Lib.hid hapX
  replace hFr2 := Lib.hid hFr2
  replace hwF := Lib.hid hwF
  replace hwV := Lib.hid hwV
  clear hap hwf hL hm hXe hpm hFr
  go_enter Try.func10, Try.ntmps10
  go_wp2_with fail
  refine hnew.out.mono ?_
  rintro e w1 ⟨pt, g, hs, rfl, hTk, hpl⟩
  have hI := tInv_start (V := V) (Xs := Xs) hmV fun x hx => (hwX.out x hx).2
  have e1 : plW g.Wt = _ := congrArg Prod.fst hpl
  have e2 : hs = _ := congrArg Prod.snd hpl
  rw [← e1, ← e2] at hI
  have hall : AllRel w0 pt A n cap V Xs Fr w1 := ⟨V, _, [], hs, g, Lib.hid hTk, Lib.hid hI, Lib.hid (by simp [ncs_all]), Lib.hid (by rw [ncs_all, hFr2.out]; exact ⟨by simp, rfl⟩)⟩
  have hta := Lib.hid (takeAll_any w0 w1 pt A n cap V Xs Fr hall hn.out hmV (by omega) (by rw [hXl.out]; omega) hapX.out (fun y hy => ⟨(hwX.out y hy).1, (hwX.out y hy).2.1⟩))
  clear hTk hpl hI e1 e2 hall
  go_wp2_with fail
  refine hta.out.mono ?_
  rintro e W1 ⟨rfl, bs, g1, hT, hbl, hnc', hmF⟩
  have hot := Lib.hid (fun (W2 : World) (hx : Ext W1 W2) => (others_any w0 W2 pt A n cap V Fr.2.2 Xs bs Fr.1 [] g1 (hT.ext hx) hbl (by rw [hXl.out]; omega)).mono fun e W3 h => (by
    obtain ⟨v, h1, h2, h3⟩ := h
    rw [hnc'] at h2
    exact ⟨v, h1, ⟨v, rfl, OwnI.down h2 hx⟩, h3⟩ : ∃ v, e = .returned v ∧ (∃ v9, v = v9 ∧ OwnI W1 W3 v9 Fr.2.1) ∧ Ext W2 W3))
  obtain ⟨bS, hbS⟩ : ∃ bS, g1.bS = bS := ⟨_, rfl⟩
  have hve := Lib.hid (fun (W2 : World) (hx : Ext W1 W2) => (by
    obtain ⟨nn, D, hnn, hM, hV⟩ := (hT.ext hx).kn
    rw [hbS] at hM
    exact (vector_any A n cap bS nn D V Fr.2.2 W2 (hT.vec.ext (hT.low.trans hx)) hn.out hnc hmV hwV.out hmF hwF.out hM hV (by have := hXl.out; omega)).mono fun e W3 h => (by
      obtain ⟨A9, n9, c9, h1, h2, h3, h4, h5⟩ := h
      exact ⟨_, h1, ⟨_, rfl, A9, c9, by rw [h2], by omega, h3⟩, h4⟩ : ∃ v, e = .returned v ∧ (∃ v9, v = v9 ∧ VecT W3 v9 Fr.2.2) ∧ Ext W2 W3) : Calls Try.prog 20 #[knv A n cap (some bS)] W2 fun e W3 => ∃ v, e = .returned v ∧ (∃ v9, v = v9 ∧ VecT W3 v9 Fr.2.2) ∧ Ext W2 W3))
  obtain ⟨vo, hvo⟩ : ∃ vo, g1.vo = vo := ⟨_, rfl⟩
  have t0 : W1.cell? ⟨pt, 0, none⟩ = some (.slice A n cap) := hT.tb.cell rfl
  have t1 : W1.cell? ⟨pt, 1, none⟩ = some (.map (some bS)) := by rw [← hbS]; exact hT.tb.cell rfl
  have t4 : W1.cell? ⟨pt, 4, none⟩ = some vo := by rw [← hvo]; exact hT.tb.cell rfl
  have hco := Lib.hid (hvo ▸ hT.come)
  have hlow := Lib.hid hT.low
  obtain ⟨O, hO⟩ : ∃ O, Fr.2.1 = O := ⟨_, rfl⟩
  obtain ⟨Vf, hVf⟩ : ∃ Vf, Fr.2.2 = Vf := ⟨_, rfl⟩
  rw [hO] at hot
  rw [hVf] at hve
  replace hO := Lib.hid hO
  replace hVf := Lib.hid hVf
  clear hT hbl hnc' hvo hbS hta hnew
  go_upto_region 3 with fail
  refine wp_soft_frame Ext 11 (pkq0 W1 A n cap bS pt vo O Vf) (by kernel_rfl) (by kernel_rfl) (fun _ _ _ => Ext.trans) ((Ext.refl _).drew) rfl (by show List.Nodup [13, 14, 15, 16, 17, 18, 19, 20, 21, 22, 23]; decide) (by show ∀ d ∈ [13, 14, 15, 16, 17, 18, 19, 20, 21, 22, 23], d < 24; decide) (pkq0_mono W1 A n cap bS pt vo O Vf Ext (fun _ _ h => h)) ?_ ⟨?_, ?_, ?_, ?_, ?_, ?_, ?_, ?_, ?_, ?_, ?_, trivial⟩
  · intro W vs hT hR
    match vs, hT with
    | [v0, v1, v2, v3, v4, v5, v6, v7, v8, v9, v10], ⟨e0, e1, e2, e3, e4, e5, e6, e7, e8, e9, e10, _⟩ =>
      simp only [pkq0, List.map_cons, List.map_nil, List.zip_cons_cons, List.zip_nil_left, putAll, List.setIfInBounds_toArray, List.set_cons_zero, List.set_cons_succ, List.drop_succ_cons, List.drop_zero]
      simp only at e0 e1 e2 e3 e4 e6 e7 e8 e9
      obtain ⟨q5, e5, h5⟩ := e5
      obtain ⟨q10, e10, h10⟩ := e10
      rw [e0, e1, e2, e3, e4, e5, e6, e7, e8, e9, e10]
      clear e0 e1 e2 e3 e4 e5 e6 e7 e8 e9 e10 v0 v1 v2 v3 v4 v5 v6 v7 v8 v9 v10
      obtain ⟨Aa, ca, ea, hca, hIa⟩ := hco.out.open
      obtain ⟨Ab, cb, eb, hcb, hIb⟩ := OwnI.open h5
      obtain ⟨Av, cv, ev, hcv, hVv⟩ := h10
      subst ea eb ev
      have hIa' := hIa.ext hR
      have hlo := hlow.out.trans hR
      replace hca := Lib.hid hca
      replace hcb := Lib.hid hcb
      replace hcv := Lib.hid hcv
      go_wp2_with fail
      have hO' := hO.out
      have hVf' := hVf.out
      subst hO'
      subst hVf'
      exact bodyPost_ret (v := .tuple #[.slice Aa Fr.1.length ca, .slice Ab Fr.2.1.length cb, .slice Av Fr.2.2.length cv]) (by simp [results, Try.results10, go_sem]) rfl ⟨Aa, ca, Ab, cb, Av, cv, rfl, hca.out, hcb.out, hcv.out, hIa', hIb, hVv, hlo⟩
  · refine softR_val 13 _ (by kernel_rfl) rfl rfl ?_
    intro a W hx hout hdep
    have ev7 : a.tmps[7]?.getD undef = .pointer (some ⟨pt, 0, none⟩) := by rw [← Array.getD_eq_getD_getElem?]; exact hout 7 (by show 7 ∉ [13, 14, 15, 16, 17, 18, 19, 20, 21, 22, 23]; decide)
    refine ⟨rfl, .pointer (some ⟨pt, 0, none⟩), W, ?_, rfl, Ext.refl _⟩
    simp [ev7, execOp, go_sem]
  · refine softR_val 14 _ (by kernel_rfl) rfl rfl ?_
    intro a W hx hout hdep
    have ev13 : a.tmps[13]?.getD undef = .pointer (some ⟨pt, 0, none⟩) := by rw [← Array.getD_eq_getD_getElem?]; exact (hdep ⟨0, .data⟩ (by simp) rfl 13 _ rfl).1
    refine ⟨rfl, .pointer (some ⟨pt, 0, none⟩), W, ?_, rfl, Ext.refl _⟩
    simp [ev13, execOp, go_sem]
  · refine softR_val 15 _ (by kernel_rfl) rfl rfl ?_
    intro a W hx hout hdep
    have ev14 : a.tmps[14]?.getD undef = .pointer (some ⟨pt, 0, none⟩) := by rw [← Array.getD_eq_getD_getElem?]; exact (hdep ⟨1, .data⟩ (by simp) rfl 14 _ rfl).1
    refine ⟨rfl, .pointer (some ⟨pt, 4, none⟩), W, ?_, rfl, Ext.refl _⟩
    simp [ev14, execOp, go_sem]
  · refine softR_val 16 _ (by kernel_rfl) rfl rfl ?_
    intro a W hx hout hdep
    have ev15 : a.tmps[15]?.getD undef = .pointer (some ⟨pt, 4, none⟩) := by rw [← Array.getD_eq_getD_getElem?]; exact (hdep ⟨2, .data⟩ (by simp) rfl 15 _ rfl).1
    have q0 := hx.keep t4
    refine ⟨rfl, vo, W, ?_, rfl, Ext.refl _⟩
    simp [ev15, q0, execOp, go_sem]
  · refine softR_val 17 _ (by kernel_rfl) rfl rfl ?_
    intro a W hx hout hdep
    have ev7 : a.tmps[7]?.getD undef = .pointer (some ⟨pt, 0, none⟩) := by rw [← Array.getD_eq_getD_getElem?]; exact hout 7 (by show 7 ∉ [13, 14, 15, 16, 17, 18, 19, 20, 21, 22, 23]; decide)
    refine ⟨rfl, .pointer (some ⟨pt, 0, none⟩), W, ?_, rfl, Ext.refl _⟩
    simp [ev7, execOp, go_sem]
  · refine softR_call 18 _ (by kernel_rfl) rfl rfl ?_
    intro a W hx hout hdep
    have ev17 : a.tmps[17]?.getD undef = .pointer (some ⟨pt, 0, none⟩) := by rw [← Array.getD_eq_getD_getElem?]; exact (hdep ⟨4, .data⟩ (by simp) rfl 17 _ rfl).1
    refine ⟨rfl, 19, #[.pointer (some ⟨pt, 0, none⟩)], ?_, ?_⟩
    · simp [ev17, execOp, go_sem]
    · exact (hot.out W hx)
  · refine softR_val 19 _ (by kernel_rfl) rfl rfl ?_
    intro a W hx hout hdep
    have ev7 : a.tmps[7]?.getD undef = .pointer (some ⟨pt, 0, none⟩) := by rw [← Array.getD_eq_getD_getElem?]; exact hout 7 (by show 7 ∉ [13, 14, 15, 16, 17, 18, 19, 20, 21, 22, 23]; decide)
    refine ⟨rfl, .pointer (some ⟨pt, 0, none⟩), W, ?_, rfl, Ext.refl _⟩
    simp [ev7, execOp, go_sem]
  · refine softR_val 20 _ (by kernel_rfl) rfl rfl ?_
    intro a W hx hout hdep
    have ev19 : a.tmps[19]?.getD undef = .pointer (some ⟨pt, 0, none⟩) := by rw [← Array.getD_eq_getD_getElem?]; exact (hdep ⟨6, .data⟩ (by simp) rfl 19 _ rfl).1
    refine ⟨rfl, .pointer (some ⟨pt, 0, none⟩), W, ?_, rfl, Ext.refl _⟩
    simp [ev19, execOp, go_sem]
  · refine softR_val 21 _ (by kernel_rfl) rfl rfl ?_
    intro a W hx hout hdep
    have ev20 : a.tmps[20]?.getD undef = .pointer (some ⟨pt, 0, none⟩) := by rw [← Array.getD_eq_getD_getElem?]; exact (hdep ⟨7, .data⟩ (by simp) rfl 20 _ rfl).1
    refine ⟨rfl, .pointer (some ⟨pt, 0, none⟩), W, ?_, rfl, Ext.refl _⟩
    simp [ev20, execOp, go_sem]
  · refine softR_val 22 _ (by kernel_rfl) rfl rfl ?_
    intro a W hx hout hdep
    have ev21 : a.tmps[21]?.getD undef = .pointer (some ⟨pt, 0, none⟩) := by rw [← Array.getD_eq_getD_getElem?]; exact (hdep ⟨8, .data⟩ (by simp) rfl 21 _ rfl).1
    have q0 := hx.keep t0
    have q1 := hx.keep t1
    refine ⟨rfl, knv A n cap (some bS), W, ?_, rfl, Ext.refl _⟩
    simp [ev21, q0, q1, execOp, go_sem]
  · refine softR_call 23 _ (by kernel_rfl) rfl rfl ?_
    intro a W hx hout hdep
    have ev22 : a.tmps[22]?.getD undef = knv A n cap (some bS) := by rw [← Array.getD_eq_getD_getElem?]; exact (hdep ⟨9, .data⟩ (by simp) rfl 22 _ rfl).1
    refine ⟨rfl, 20, #[knv A n cap (some bS)], ?_, ?_⟩
    · simp [ev22, execOp, go_sem]
    · exact (hve.out W hx)

end Go.Proofs.Ytdpmhhfpjpdfiaa

namespace Go.Proofs.Ytdpmhhfpjpdfiaa
open Go.ChangeShapes Go.WideShapes Go.ChangeAt Go.RowKit
theorem pend_K : PdK where
  ready := fun A n cap V x W hv hn _ hm _ hb hx _ => ready_any A n cap V x W hv hn hm (by omega) hx
  take := fun A B n cap m capm V L W hv hn hnc hm hwf hL hl hmc hb hap hw => take_holds A B n cap m capm V L W hv hn hnc hm hwf hL hl hmc hb hap hw

end Go.Proofs.Ytdpmhhfpjpdfiaa

namespace Go.Proofs.Ytdpmhhfpjpdfiaa
open Go.ChangeShapes Go.WideShapes Go.ChangeAt Go.RowKit Go.Sort
set_option linter.unusedVariables false
set_option linter.unusedSimpArgs false
attribute [local go_sem] World.cell?_alloc_some

def wtB (v : List (Int × Int)) (x : It) : Bool := decide (x.c ≠ 0) && decide (x.k ≤ 4294967294) && decide (nextOf v x.c ≤ x.k)
def stepW (v : List (Int × Int)) (out : List It) (x : It) : List It := if wtB v x && !hasI out (iid x) then out ++ [x] else out
def wtI (v : List (Int × Int)) (l : List It) : List It := l.foldl (stepW v) []
theorem wt_snoc (v : List (Int × Int)) (l : List It) (x : It) : wtI v (l ++ [x]) = stepW v (wtI v l) x := by unfold wtI; rw [List.foldl_append]; rfl
theorem wt_take {v : List (Int × Int)} {l : List It} {j : Nat} {x : It} (h : l[j]? = some x) : wtI v (l.take (j + 1)) = stepW v (wtI v (l.take j)) x := by
  obtain ⟨hk, e⟩ := List.getElem?_eq_some_iff.1 h
  rw [List.take_succ_eq_append_getElem hk, e, wt_snoc]
theorem wt_len (v : List (Int × Int)) (l : List It) : (wtI v l).length ≤ l.length := by
  refine snoc_ind (P := fun l => (wtI v l).length ≤ l.length) (Nat.le_refl _) (fun l x ih => ?_) l
  rw [wt_snoc]
  unfold stepW
  rw [List.length_append]
  split
  · rw [List.length_append]; simp; omega
  · simp; omega
theorem wt_mem {v : List (Int × Int)} {l : List It} : ∀ x ∈ wtI v l, x ∈ l ∧ wtB v x = true := by
  refine snoc_ind (P := fun l => ∀ x ∈ wtI v l, x ∈ l ∧ wtB v x = true) (fun x h => by cases h) (fun l y ih x hx => ?_) l
  rw [wt_snoc] at hx
  unfold stepW at hx
  split at hx
  · rename_i g
    rcases List.mem_append.1 hx with hx | hx
    · exact ⟨List.mem_append_left _ (ih x hx).1, (ih x hx).2⟩
    · rcases List.mem_singleton.1 hx with rfl
      rw [Bool.and_eq_true] at g
      exact ⟨by simp, g.1⟩
  · exact ⟨List.mem_append_left _ (ih x hx).1, (ih x hx).2⟩
theorem wt_apart (v : List (Int × Int)) (l : List It) : apartI (wtI v l) := by
  refine snoc_ind (P := fun l => apartI (wtI v l)) .nil (fun l x ih => ?_) l
  rw [wt_snoc]
  unfold stepW
  split
  · rename_i g
    rw [Bool.and_eq_true] at g
    refine List.pairwise_append.2 ⟨ih, by simp, fun y hy z hz e => ?_⟩
    rcases List.mem_singleton.1 hz with rfl
    have : hasI (wtI v l) (iid z) = true := has_iffI.2 ⟨y, hy, e⟩
    rw [this] at g
    simp at g
  · exact ih
theorem wt_ok {v : List (Int × Int)} {l : List It} (hw : ∀ x ∈ l, wfI x) : ∀ x ∈ wtI v l, okW x ∧ nextOf v x.c ≤ x.k := fun x hx => by
  obtain ⟨h1, h2⟩ := wt_mem x hx
  have hwx := hw x h1
  unfold wfI at hwx
  unfold wtB at h2
  simp only [Bool.and_eq_true, decide_eq_true_eq] at h2
  exact ⟨⟨by omega, hwx.2.1, hwx.2.2.1, h2.1.2⟩, h2.2⟩
theorem has_take {l : List It} {k : Nat} {y : It} {a : I2} (h : l[k]? = some y) : hasI (l.take (k + 1)) a = (hasI (l.take k) a || decide (iid y = a)) := by
  obtain ⟨hk, e⟩ := List.getElem?_eq_some_iff.1 h
  rw [List.take_succ_eq_append_getElem hk, e, has_snoc]
theorem idW_neq (a b c d : Int) (W : World) : (binOp .neq 30 (.agg #[.int .u32 a, .int .u32 b]) (.agg #[.int .u32 c, .int .u32 d])).run Try.prog W = .ok (.bool (!decide (((a, b) : I2) = (c, d)))) W := by
  by_cases h1 : a = c
  · by_cases h2 : b = d
    · subst h1; subst h2; simp [go_sem]
    · have : (b == d) = false := by simpa using h2
      subst h1
      simp [go_sem, this, h2]
  · have : (a == c) = false := by simpa using h1
    simp [go_sem, this, h1]

set_option maxRecDepth 100000 in
set_option maxHeartbeats 8000000 in
theorem waiting_any (A B : Option Addr) (n cap m capm : Nat) (v : List (Int × Int)) (L : List It) (w : World) (hv : Vec w A v) (hn : v.length = n) (hu : ItS w B L) (hm : L.length = m) (hb : n ≤ 1000) (hb2 : m ≤ 1000) :
    Calls Try.prog 7 #[.slice A n cap, .slice B m capm] w (RetI w (wtI v L)) := by
  replace hn := Lib.hid hn
  replace hv := Lib.hid hv
  replace hm := Lib.hid hm
  replace hu := Lib.hid hu
  go_enter Try.func7, Try.ntmps7
  go_wp2
  go_loopw [5, 6] (fun o i W => ∃ (j : Nat), j ≤ m ∧ i = Vi j ∧ Hid (OwnI w W o (wtI v (L.take j))) ∧ Ext w W) (fun _ i _ => m - (intOf i).toNat)
  case atStart => exact ⟨0, Nat.zero_le _, rfl, Lib.hid (OwnI.nil _ _), Ext.refl _⟩
  case round =>
    obtain ⟨j, hj, rfl, ho, hx⟩ := hrel
    by_cases hlt : j < m
    · obtain ⟨b, o, x, hA, hp, d⟩ := (hu.out.ext hx).at (k := j) (by rw [hm.out]; exact hlt)
      obtain ⟨d0, d1, d2, d3, d4, d5, d6⟩ := d
      have hi1 : (0 : Int) ≤ (j : Int) := by omega
      have hi2 : (j : Int) < (m : Int) := by omega
      have hst := Lib.hid (wt_take (v := v) hp)
      have hol : (wtI v (L.take j)).length ≤ j := by have := wt_len v (L.take j); rw [List.length_take] at this; omega
      subst hA
      clear hp
      obtain ⟨Ao, co, rfl, hco, hI⟩ := ho.out.open
      generalize wtI v (L.take j) = out at *
      obtain ⟨q, hq⟩ : ∃ q, out.length = q := ⟨_, rfl⟩
      rw [hq] at hol ho hco ⊢
      replace hq := Lib.hid hq
      replace hI := Lib.hid hI
      have hx := Lib.hid hx
      generalize hwo : wr = wo at *
      clear hwo
      have hcall := Lib.hid (fun (c : Int) (W : World) (hW : Ext wo W) => nextRef_any A n cap v c W (hv.out.ext (hx.out.trans hW)) hn.out hb)
      go_upto_region 5 with fail
      go_cut [7] (fun s wx => s = .bool (wtB v x) ∧ Hid (Ext wo wx))
      case first =>
        cases g0 : (x.c != 0) with
        | false =>
          have e0 : x.c = 0 := by simpa using g0
          have hfin := Lib.hid (show Value.bool false = Value.bool (wtB v x) by unfold wtB; simp [e0])
          clear e0
          go_wp2_with fail
          have q0 := cell_regrown d0
          have q1 := cell_regrown d1
          refine wp_region_quiet_below (by kernel_rfl) (by kernel_rfl) ?_
          repeat go_big_quiet_step ((with_reducible exact Calls.same_regrown (hcall.out _ _ (Ext.regrown _ _ _))))
          refine wpQuiet_nil ?_
          intro _ hw'
          obtain ⟨⟨dq, osq⟩, hw''⟩ := hw'
          subst hw''
          go_wp2_with fail
          go_meet
          exact ⟨hfin.out, Lib.hid (Ext.regrown _ _ _)⟩
        | true =>
          have e0 : x.c ≠ 0 := by simpa using g0
          cases g1 : decide (x.k ≤ 4294967294) with
          | false =>
            have e1 : ¬ x.k ≤ 4294967294 := of_decide_eq_false g1
            have hfin := Lib.hid (show Value.bool false = Value.bool (wtB v x) by unfold wtB; simp [e0, e1])
            clear e0 e1
            go_wp2_with fail
            have q0 := cell_regrown d0
            have q1 := cell_regrown d1
            refine wp_region_quiet_below (by kernel_rfl) (by kernel_rfl) ?_
            repeat go_big_quiet_step ((with_reducible exact Calls.same_regrown (hcall.out _ _ (Ext.regrown _ _ _))))
            refine wpQuiet_nil ?_
            intro _ hw'
            obtain ⟨⟨dq, osq⟩, hw''⟩ := hw'
            subst hw''
            go_wp2_with fail
            go_meet
            exact ⟨hfin.out, Lib.hid (Ext.regrown _ _ _)⟩
          | true =>
            have e1 : x.k ≤ 4294967294 := of_decide_eq_true g1
            have hfin := Lib.hid (show Value.bool (decide (nextOf v x.c ≤ x.k)) = Value.bool (wtB v x) by unfold wtB; simp [e0, e1])
            clear e0 e1
            go_wp2_with fail
            have q0 := cell_regrown d0
            have q1 := cell_regrown d1
            refine wp_region_quiet_below (by kernel_rfl) (by kernel_rfl) ?_
            repeat go_big_quiet_step ((with_reducible exact Calls.same_regrown (hcall.out _ _ (Ext.regrown _ _ _))))
            refine wpQuiet_nil ?_
            intro _ hw'
            obtain ⟨⟨dq, osq⟩, hw''⟩ := hw'
            subst hw''
            go_wp2_with fail
            go_meet
            exact ⟨hfin.out, Lib.hid (Ext.regrown _ _ _)⟩
      case rest =>
        obtain ⟨rfl, hxc⟩ := hcut
        obtain ⟨bb, hbb⟩ : ∃ bb, wtB v x = bb := ⟨_, rfl⟩
        rw [hbb]
        replace hbb := Lib.hid hbb
        clear hcall
        have hneq := fun (y : It) (W : World) => idW_neq y.c y.k x.c x.k W
        go_wp2_with fail
        go_loopw [7, 8] (fun s i W => ∃ (k : Nat), k ≤ q ∧ i = Vi k ∧ s = .bool (bb && !hasI (out.take k) (iid x)) ∧ Ext wo W) (fun _ i _ => q - (intOf i).toNat)
        case atStart => exact ⟨0, Nat.zero_le _, rfl, by simp [hasI], hxc.out⟩
        case round =>
          obtain ⟨k, hk, rfl, rfl, hx2⟩ := hrel
          by_cases hlt2 : k < q
          · obtain ⟨b', o', y, hB, hz, dz⟩ := (hI.out.ext hx2).at (k := k) (by rw [hq.out]; exact hlt2)
            have hk1 : (0 : Int) ≤ (k : Int) := by omega
            have hk2 : (k : Int) < (q : Int) := by omega
            have q0 := hx2.keep d0
            have q1 := hx2.keep d1
            have y0 := dz.c0
            have y1 := dz.c1
            have ht := has_take (a := iid x) hz
            subst hB
            clear hz dz
            cases hg : (bb && !hasI (out.take k) (iid x)) with
            | false =>
              have hfin := Lib.hid (show Value.bool false = .bool (bb && !hasI (out.take (k + 1)) (iid x)) by
                rw [ht]
                cases bb
                · rfl
                · simp only [Bool.true_and] at hg ⊢; rw [Bool.not_or, hg]; rfl)
              clear hg ht
              go_wp2
              go_quiet (fail)
              go_wp2
              go_roundw
              case rel => exact ⟨k + 1, by omega, by go_num, hfin.out, hx2.drewN _⟩
              case measure => simp [intOf]; omega
            | true =>
              have hfin := Lib.hid (show Value.bool (!decide (y.c = x.c) || !decide (y.k = x.k)) = .bool (bb && !hasI (out.take (k + 1)) (iid x)) by
                have e : decide (iid y = iid x) = (decide (y.c = x.c) && decide (y.k = x.k)) := by simp [iid, Prod.ext_iff]
                rw [ht, e]
                rw [Bool.and_eq_true] at hg
                rw [hg.1, Bool.not_or, hg.2]
                simp)
              have hny := hneq y
              clear hg ht
              go_wp2
              go_quiet (fail)
              go_wp2
              go_roundw
              case rel => exact ⟨k + 1, by omega, by go_num, hfin.out, hx2.drewN _⟩
              case measure => simp [intOf]; omega
          · have hfull := Lib.hid (show out.take k = out from List.take_of_length_le (by rw [hq.out]; omega))
            rw [hfull.out]
            cases hg : (bb && !hasI out (iid x)) with
            | false =>
              have hs := Lib.hid (show wtI v (L.take (j + 1)) = out by rw [hst.out, stepW, hbb.out, hg]; rfl)
              have hO := Lib.hid (ho.out.ext hx2)
              clear hg hst hfull
              go_wp2
              go_roundw
              case rel => exact ⟨j + 1, by omega, by go_num, Lib.hid (by rw [hs.out]; exact hO.out), hx.out.trans hx2⟩
              case measure => simp [intOf]; omega
            | true =>
              have hs := Lib.hid (show wtI v (L.take (j + 1)) = out ++ [x] by rw [hst.out, stepW, hbb.out, hg]; rfl)
              have hO := ho.out.ext hx2
              have c0 := hx2.keep d0
              have c1 := hx2.keep d1
              have c2 := hx2.keep d2
              have c3 := hx2.keep d3
              have c4 := hx2.keep d4
              have c5 := hx2.keep d5
              have c6 := hx2.keep d6
              have hX := hx.out.trans hx2
              clear hg hst hfull d0 d1 d2 d3 d4 d5 d6
              go_wp2_with (first
              | (at_builtin
                 refine wpList_append_I (w0 := w) rfl (.tmp 69) (.tmp 74) rfl _ out rfl (hO.ext ((Ext.refl wr).alloc _)) (hX.alloc _) _ 1 1 [x] rfl rfl (ItS.new wr x) (by rw [hq.out]; simp only [List.length_cons, List.length_nil]; omega) ?_
                 intro v3 w3 o3 x3 g3 e3)
              | fail)
              go_roundw
              case rel => exact ⟨j + 1, by omega, by go_num, Lib.hid (by rw [hs.out]; exact o3), x3⟩
              case measure => simp [intOf]; omega
    · have hfull := Lib.hid (show L.take j = L from List.take_of_length_le (by rw [hm.out]; omega))
      rw [hfull.out] at ho
      go_wp2
      go_ret
      exact ⟨_, rfl, ho.out, hx⟩

end Go.Proofs.Ytdpmhhfpjpdfiaa

namespace Go.Proofs.Ytdpmhhfpjpdfiaa
open Go.ChangeShapes Go.WideShapes Go.ChangeAt Go.RowKit Go.Sort
set_option linter.unusedVariables false
set_option linter.unusedSimpArgs false
attribute [local go_sem] World.cell?_alloc_some

theorem take_lens {v : List (Int × Int)} {l : List It} (ha : apartI l) (hv : mayFrom 0 v = true) (hw : wfC v) (ho : ∀ x ∈ l, okW x) :
    (takeI v l).1.length + (takeI v l).2.1.length = l.length ∧ (takeI v l).2.2.length ≤ v.length + l.length ∧ mayFrom 0 (takeI v l).2.2 = true ∧ wfC (takeI v l).2.2 ∧ (∀ x ∈ (takeI v l).2.1, x ∈ l) ∧ ∀ x ∈ (takeI v l).2.1, rdyI (takeI v l).2.2 x = false := by
  have h := take_is (v := v) ha
  have hl := h.perm.length_eq
  rw [List.length_append] at hl
  obtain ⟨h1, h2, h3⟩ := run_vec h.run hv hw fun x hx => ho x (h.perm.mem_iff.1 (List.mem_append_left _ hx))
  exact ⟨hl, by omega, h1, h2, fun x hx => h.perm.mem_iff.1 (List.mem_append_right _ hx), h.none⟩

end Go.Proofs.Ytdpmhhfpjpdfiaa

namespace Go.Proofs.Ytdpmhhfpjpdfiaa
open Go.ChangeShapes Go.WideShapes Go.ChangeAt Go.RowKit Go.Sort
set_option linter.unusedVariables false
set_option linter.unusedSimpArgs false

theorem pick8_any (n : Int) (k : Nat) (w : World) (hk : 0 < k) (hk2 : k ≤ 3000) : Calls Try.prog 14 #[Vi n, Vi k] w fun e w' => (∃ r : Nat, r < k ∧ e = .returned (Vi r)) ∧ w = w' := by
  have h1 : Int.tmod n k < k := Int.tmod_lt_of_pos n (by omega)
  have h2 : -(k : Int) < Int.tmod n k := Int.lt_tmod_of_pos n (by omega)
  have h3 : ((k : Int) == 0) = false := by rw [beq_eq_false_iff_ne]; omega
  by_cases hneg : Int.tmod n k < 0
  · go_enter Try.func14, Try.ntmps14
    go_wp2
    go_ret
    exact ⟨⟨(Int.tmod n k + k).toNat, by omega, ret_i64 (by omega)⟩, rfl⟩
  · go_enter Try.func14, Try.ntmps14
    go_wp2
    go_ret
    exact ⟨⟨(Int.tmod n k).toNat, by omega, ret_i64 (by omega)⟩, rfl⟩

end Go.Proofs.Ytdpmhhfpjpdfiaa

namespace Go.Proofs.Ytdpmhhfpjpdfiaa
open Go.ChangeShapes Go.WideShapes Go.ChangeAt Go.RowKit Go.Sort
set_option linter.unusedVariables false
set_option linter.unusedSimpArgs false

structure SoftAtY (Rel : World → World → Prop) (k0 : Nat) (bef : Nat → Bool) (tab : SoftTab) (a0 a : Act) (w W : World) (listed : Array Bool) : Prop where
  rel : Rel w W
  defers : a.defers = a0.defers
  size : a.tmps.size = a0.tmps.size
  out : ∀ t, t ∉ tab.map (·.1) → a.tmps[t]? = a0.tmps[t]?
  told : ∀ (k d : Nat) (R : Told), tab[k]? = some (d, R) → listed.getD k false = true → (bef k = false ∨ listed.getD k0 false = false) → R (a.tmps.getD d undef) W
def SoftMonoY (Rel : World → World → Prop) (k0 : Nat) (bef aft : Nat → Bool) (tab : SoftTab) : Prop :=
  (∀ (k d : Nat) (R : Told), tab[k]? = some (d, R) → ∀ (v : Value) (W W' : World), R v W → Ext W W' → R v W') ∧
  (∀ (k d : Nat) (R : Told), tab[k]? = some (d, R) → k ≠ k0 → bef k = false → aft k = false → ∀ (v : Value) (W W' : World), R v W → Rel W W' → R v W')
def SoftStepY (k0 : Nat) (bef : Nat → Bool) (Rel : World → World → Prop) (P : Program) (ops : Array Oper) (tab : SoftTab) (Q : Exit → Act → World → Prop) (a0 : Act) (w : World) (k : Nat) (o : Oper) : Prop :=
  ∀ a W, Rel w W → (∀ t, t ∉ tab.map (·.1) → a.tmps.getD t undef = a0.tmps.getD t undef) → (∀ e ∈ o.after.toList, Region.binds .any e = true → ∀ (d : Nat) (R : Told), tab[e.on]? = some (d, R) → (bef e.on = false ∨ depB ops k0 k = true) → R (a.tmps.getD d undef) W ∧ d < a.tmps.size) →
    ∀ (d : Nat) (R : Told), tab[k]? = some (d, R) → wpOp P ops Q k (fun a' W' => ∃ v, a' = a.put (some d) v ∧ R v W' ∧ Ext W W') a W
def SoftStepZ (Rel : World → World → Prop) (P : Program) (ops : Array Oper) (tab : SoftTab) (Q : Exit → Act → World → Prop) (a0 : Act) (w : World) (k : Nat) (o : Oper) : Prop :=
  ∀ a W, Rel w W → (∀ t, t ∉ tab.map (·.1) → a.tmps.getD t undef = a0.tmps.getD t undef) → (∀ e ∈ o.after.toList, Region.binds .any e = true → ∀ (d : Nat) (R : Told), tab[e.on]? = some (d, R) → R (a.tmps.getD d undef) W ∧ d < a.tmps.size) →
    ∀ (d : Nat) (R : Told), tab[k]? = some (d, R) → wpOp P ops Q k (fun a' W' => ∃ v, a' = a.put (some d) v ∧ R v W' ∧ Rel W W') a W

theorem wpAny_softY {Rel : World → World → Prop} {k0 : Nat} {bef aft : Nat → Bool} {P : Program} {ops : Array Oper} {n : Nat} {tab : SoftTab} {Q : Exit → Act → World → Prop} {a0 : Act} {w : World} {rest : List Oper}
    (htrans : ∀ a b c, Rel a b → Rel b c → Rel a c)
    (hlen : tab.length = n) (hnd : (tab.map (·.1)).Nodup) (hsz : ∀ d ∈ tab.map (·.1), d < a0.tmps.size)
    (hn : n < ops.size) (hs : Region.sinkB .any ops n = true) (hc : Region.chainB .any ops n = true)
    (hback : ∀ (k : Nat) (o : Oper), k < n → ops[k]? = some o → ∀ e ∈ o.after.toList, Region.binds .any e = true → e.on < k)
    (haft : ∀ k, k < n → aft k = true → ∃ i, depB ops k i = true ∧ (i = k0 ∨ (i < k ∧ aft i = true))) (hmono : SoftMonoY Rel k0 bef aft tab)
    (hsub : ∀ a b, Ext a b → Rel a b) (hk0 : k0 < n)
    (hstep : ∀ (k : Nat) (o : Oper), k < n → k ≠ k0 → ops[k]? = some o → SoftStepY k0 bef Rel P ops tab Q a0 w k o) (hcall : ∀ o, ops[k0]? = some o → SoftStepZ Rel P ops tab Q a0 w k0 o)
    (hrest : ∀ j, rest[j]? = ops[n + j]?) (hrl : rest.length = ops.size - n) (hseq : Region.seqB .any ops rest.length n (doneTo n ops.size) = true)
    (hend : ∀ a W, SoftAtY Rel k0 bef tab a0 a w W (doneTo n ops.size) → wpList P ops Q rest a W) :
    ∀ (f : Nat) (listed : Array Bool) (a : Act) (W : World), HeadInv .any ops n listed → (listed.toList.take n).count false = f → SoftAtY Rel k0 bef tab a0 a w W listed → wpAny P .any ops Q (f + rest.length) listed a W := by
  intro f
  induction f with
  | zero =>
    intro listed a W inv hcnt hI
    have e : listed = doneTo n ops.size := by
      apply Array.ext
      · rw [inv.size]; simp [doneTo]; omega
      · intro i h1 h2
        rcases Nat.lt_or_ge i n with h | h
        · have hm : listed[i] ∈ listed.toList.take n := by
            rw [List.mem_take_iff_getElem]
            exact ⟨i, by simp; omega, by simp⟩
          have hne : listed[i] ≠ false := fun e => by
            rw [e] at hm
            have := List.count_pos_iff.2 hm
            omega
          have : listed[i] = true := by simpa using hne
          rw [this]
          simp [doneTo, h]
        · have := inv.tail i h (by rw [← inv.size]; exact h1)
          have h3 : listed[i] = false := by simpa [Array.getD, h1] using this
          rw [h3]
          simp [doneTo, List.getElem_append, Nat.not_lt.2 h]
    subst e
    rw [Nat.zero_add]
    exact wpAny_of_seq (md := .any) rest n _ a W hrest hseq (hend a W hI)
  | succ f ih =>
    intro listed a W inv hcnt hI
    have hex : ∃ i, i < n ∧ listed.getD i true = false := by
      have hm : false ∈ listed.toList.take n := List.count_pos_iff.1 (by omega)
      rw [List.mem_take_iff_getElem] at hm
      obtain ⟨i, h1, h2⟩ := hm
      have h1' : i < n ∧ i < listed.size := by simp at h1; omega
      refine ⟨i, h1'.1, ?_⟩
      simp [Array.getD, h1'.2]
      simpa using h2
    obtain ⟨i0, hi0, hun0⟩ := hex
    rw [show f + 1 + rest.length = (f + rest.length) + 1 by omega]
    refine ⟨fun hr => ?_, fun i hi => ?_⟩
    · exfalso
      have key : ∀ k, k < n → listed.getD k false = true := by
        intro k
        induction k using Nat.strongRecOn with
        | ind k ihk =>
          intro hk
          rcases hb : listed.getD k false with _ | _
          · exfalso
            have hk' : k < listed.size := by rw [inv.size]; omega
            have hk2 : k < ops.size := by omega
            have hm : k ∈ Region.ready .any ops listed := by
              rw [mem_ready]
              refine ⟨getD_in hk' hb, ops[k], by simp [hk2], fun e he hb' => ?_⟩
              have hlt := hback k ops[k] hk (by simp [hk2]) e (by simpa using he) hb'
              exact ihk e.on hlt (by omega)
            rw [hr] at hm
            cases hm
          · rfl
      have h9 := key i0 hi0
      rw [getD_both hun0] at h9
      cases h9
    · have hin : i < n := by
        rcases Nat.lt_or_ge i n with h | h
        · exact h
        · exact absurd hi (tail_waits hs hc hn inv _ i0 rfl hi0 hun0 i h)
      obtain ⟨h1, o, ho, hdep⟩ := mem_ready.1 hi
      obtain ⟨⟨d, R⟩, htab⟩ : ∃ p, tab[i]? = some p := ⟨tab[i], List.getElem?_eq_getElem (by omega)⟩
      have hdsz : d < a.tmps.size := by rw [hI.size]; exact hsz d (List.mem_map.2 ⟨(d, R), List.mem_of_getElem? htab, rfl⟩)
      have hk0of : depB ops k0 i = true → listed.getD k0 false = false := fun hd0 => by
        rcases hbk : listed.getD k0 false with _ | _
        · rfl
        · obtain ⟨o0, ho0, e0, he0, hb0, hon⟩ := depB_spec hd0
          have h7 := inv.closed k0 o0 ho0 hbk e0 (by simpa using he0) hb0
          rw [hon, getD_both h1] at h7
          cases h7
      have haftl : ∀ k, k < n → aft k = true → listed.getD k false = true → listed.getD k0 false = true := by
        intro k
        induction k using Nat.strongRecOn with
        | ind k ihk =>
          intro hkn hak hlk
          obtain ⟨i2, hd2, hor⟩ := haft k hkn hak
          obtain ⟨o0, ho0, e0, he0, hb0, hon⟩ := depB_spec hd2
          have h7 := inv.closed k o0 ho0 hlk e0 (by simpa using he0) hb0
          rw [hon] at h7
          rcases hor with rfl | ⟨hlt, ha2⟩
          · exact h7
          · exact ihk i2 hlt (by omega) ha2 h7
      have hdeps : ∀ e ∈ o.after.toList, Region.binds .any e = true → ∀ (d' : Nat) (R' : Told), tab[e.on]? = some (d', R') → (bef e.on = false ∨ listed.getD k0 false = false) → R' (a.tmps.getD d' undef) W ∧ d' < a.tmps.size := fun e he hb d' R' ht' hor =>
        ⟨hI.told e.on d' R' ht' (hdep e (by simpa using he) hb) hor, by rw [hI.size]; exact hsz d' (List.mem_map.2 ⟨(d', R'), List.mem_of_getElem? ht', rfl⟩)⟩
      have hst : wpOp P ops Q i (fun a' W' => ∃ v, a' = a.put (some d) v ∧ R v W' ∧ Rel W W' ∧ (i ≠ k0 → Ext W W')) a W := by
        by_cases hik : i = k0
        · subst hik
          have hf : listed.getD i false = false := getD_both h1
          refine wpOp_mono (fun a' W' hh => ?_) (hcall o ho a W hI.rel (fun t ht => by simp only [Array.getD_eq_getD_getElem?, hI.out t ht]) (fun e he hb d' R' ht' => hdeps e he hb d' R' ht' (.inr hf)) d R htab)
          obtain ⟨v, e1, e2, e3⟩ := hh
          exact ⟨v, e1, e2, e3, fun hne => absurd rfl hne⟩
        · refine wpOp_mono (fun a' W' hh => ?_) (hstep i o hin hik ho a W hI.rel (fun t ht => by simp only [Array.getD_eq_getD_getElem?, hI.out t ht]) (fun e he hb d' R' ht' hor => hdeps e he hb d' R' ht' (hor.imp id hk0of)) d R htab)
          obtain ⟨v, e1, e2, e3⟩ := hh
          exact ⟨v, e1, e2, hsub _ _ e3, fun _ => e3⟩
      refine wpOp_mono (fun a' W' hh => ?_) hst
      obtain ⟨v, rfl, hR, hx, hxe⟩ := hh
      have hil' : i < listed.size := by rw [inv.size]; omega
      refine ih _ _ _ (inv.set hi hin) ?_ ⟨htrans _ _ _ hI.rel hx, hI.defers, by simp only [Act.put, Array.size_setIfInBounds]; exact hI.size, ?_, ?_⟩
      · have e : (listed.toList.take n)[i]? = some false := by
          have h3 : listed[i] = false := by simpa [Array.getD, hil'] using h1
          rw [List.getElem?_take, if_pos hin]
          simp [hil', h3]
        have := count_set (listed.toList.take n) i e
        rw [Array.toList_setIfInBounds, List.take_set]
        omega
      · intro t ht
        have hne : d ≠ t := fun e => ht (e ▸ List.mem_map.2 ⟨(d, R), List.mem_of_getElem? htab, rfl⟩)
        simp only [Act.put]
        rw [Array.getElem?_setIfInBounds_ne hne]
        exact hI.out t ht
      · intro k d2 R2 ht2 hl2 hor
        simp only [Act.put]
        by_cases hki : k = i
        · subst hki
          obtain ⟨rfl, rfl⟩ : d = d2 ∧ R = R2 := by rw [htab] at ht2; injection ht2 with e; injection e with e1 e2; exact ⟨e1, e2⟩
          simp [hdsz]
          exact hR
        · have hne : d ≠ d2 := tab_ne hnd htab ht2 (fun e => hki e.symm)
          have h3 : listed.getD k false = true := by rw [getD_set_ne false (fun e => hki e.symm)] at hl2; exact hl2
          have : R2 (a.tmps.getD d2 undef) W' := by
            by_cases hik : i = k0
            · have hil2 : k0 < listed.size := by rw [inv.size]; omega
              have hkb : bef k = false := by
                rcases hor with h | h
                · exact h
                · exfalso
                  rw [hik] at h
                  simp [hil2] at h
              have hka : aft k = false := by
                rcases hak : aft k with _ | _
                · rfl
                · exfalso
                  have hkn : k < n := by have := (List.getElem?_eq_some_iff.1 ht2).1; omega
                  have := haftl k hkn hak h3
                  rw [← hik, getD_both h1] at this
                  cases this
              exact hmono.2 k d2 R2 ht2 (fun e => hki (e.trans hik.symm)) hkb hka _ _ _ (hI.told k d2 R2 ht2 h3 (.inl hkb)) hx
            · refine hmono.1 k d2 R2 ht2 _ _ _ (hI.told k d2 R2 ht2 h3 (hor.imp id fun h => ?_)) (hxe hik)
              rwa [getD_set_ne false hik] at h
          simp only [Array.getD_eq_getD_getElem?, Array.getElem?_setIfInBounds_ne hne]
          simp only [Array.getD_eq_getD_getElem?] at this
          exact this

def SoftAllY (Rel : World → World → Prop) (k0 : Nat) (bef : Nat → Bool) (P : Program) (ops : Array Oper) (tab : SoftTab) (Q : Exit → Act → World → Prop) (a0 : Act) (w : World) : List Oper → Nat → Prop
  | [], _ => True
  | o :: r, k => (if k = k0 then SoftStepZ Rel P ops tab Q a0 w k o else SoftStepY k0 bef Rel P ops tab Q a0 w k o) ∧ SoftAllY Rel k0 bef P ops tab Q a0 w r (k + 1)
theorem softAllY_spec {Rel : World → World → Prop} {k0 : Nat} {bef : Nat → Bool} {P : Program} {ops : Array Oper} {tab : SoftTab} {Q : Exit → Act → World → Prop} {a0 : Act} {w : World} : ∀ (l : List Oper) (k : Nat), SoftAllY Rel k0 bef P ops tab Q a0 w l k → ∀ (j : Nat) (o : Oper), l[j]? = some o →
    if k + j = k0 then SoftStepZ Rel P ops tab Q a0 w (k + j) o else SoftStepY k0 bef Rel P ops tab Q a0 w (k + j) o
  | [], _, _, j, o, h => by simp at h
  | x :: l, k, h, 0, o, ho => by
    obtain rfl : x = o := by simpa using ho
    exact h.1
  | x :: l, k, h, j + 1, o, ho => by
    have := softAllY_spec l (k + 1) h.2 j o (by simpa using ho)
    rwa [Nat.add_assoc, Nat.add_comm 1 j] at this
theorem wp_soft_tailY (Rel : World → World → Prop) (k0 : Nat) (bef aft : Nat → Bool) {P : Program} {l : List Oper} (n : Nat) (tab : SoftTab) {Q : Exit → Act → World → Prop} {a : Act} {w : World} {id : Nat} (hm : P.follows .mixedOrders = true)
    (hform : softForm n l = true) (htrans : ∀ a b c, Rel a b → Rel b c → Rel a c) (hsub : ∀ a b, Ext a b → Rel a b) (hk0 : k0 < n)
    (hlen : tab.length = n) (hnd : (tab.map (·.1)).Nodup) (hsz : ∀ d ∈ tab.map (·.1), d < a.tmps.size) (haft : ∀ k, k < n → aft k = true → ∃ i, depB l.toArray k i = true ∧ (i = k0 ∨ (i < k ∧ aft i = true))) (hmono : SoftMonoY Rel k0 bef aft tab)
    (hend : ∀ a' W, SoftAtY Rel k0 bef tab a a' w W (doneTo n l.length) → wpList P l.toArray Q (l.drop n) a' W)
    (hstep : SoftAllY Rel k0 bef P l.toArray tab Q a w (l.take n) 0) : (Code.region id l.toArray true).wp P Q a w := by
  unfold softForm at hform
  simp only [Bool.and_eq_true, decide_eq_true_eq] at hform
  obtain ⟨⟨⟨⟨hn, hs⟩, hc⟩, hb⟩, hq⟩ := hform
  have hdl : (l.drop n).length = l.length - n := by simp
  have inv0 : HeadInv .any l.toArray n (Array.replicate l.toArray.size false) :=
    ⟨by simp, fun j oj _ hl => (by rw [getD_replicate_false] at hl; cases hl), fun t _ ht => getD_in (by simpa using ht) (getD_replicate_false _ _)⟩
  refine wp_region_any hm ?_
  have := wpAny_softY (Rel := Rel) (k0 := k0) (bef := bef) (aft := aft) (P := P) (ops := l.toArray) (n := n) (tab := tab) (Q := Q) (a0 := a) (w := w) (rest := l.drop n) htrans hlen hnd hsz (by simpa using hn) hs hc
    (fun k o hk ho => softBackN_spec hb k o hk (by simpa using ho)) haft hmono
    hsub hk0
    (fun k o hk hne ho => by
      have := softAllY_spec (l.take n) 0 hstep k o (by rw [List.getElem?_take, if_pos hk]; simpa using ho)
      rw [Nat.zero_add, if_neg hne] at this
      exact this)
    (fun o ho => by
      have := softAllY_spec (l.take n) 0 hstep k0 o (by rw [List.getElem?_take, if_pos hk0]; simpa using ho)
      rw [Nat.zero_add, if_pos rfl] at this
      exact this)
    (fun j => by simp [List.getElem?_drop]) (by simp) (by rw [hdl]; simpa using hq) (fun a' W h => hend a' W (by simpa using h)) n (Array.replicate l.toArray.size false) a { w with drawn := w.drawn + 1 } inv0
    (by
      simp
      omega) ⟨hsub _ _ ((Ext.refl w).drew), rfl, rfl, fun _ _ => rfl, fun k d R h1 h2 _ => by rw [getD_replicate_false] at h2; cases h2⟩
  rw [hdl] at this
  have e : n + (l.length - n) = l.toArray.size := by simp; omega
  rw [e] at this
  exact this

theorem softY_val {k0 : Nat} {bef : Nat → Bool} {Rel : World → World → Prop} {P : Program} {ops : Array Oper} {tab : SoftTab} {Q : Exit → Act → World → Prop} {a0 : Act} {w : World} {k : Nat} {o : Oper} (d : Nat) (R : Told) (hk : ops[k]? = some o) (hd : o.dst = some d) (htab : tab[k]? = some (d, R))
    (h : ∀ (a : Act) (W : World), Rel w W → (∀ t, t ∉ tab.map (·.1) → a.tmps.getD t undef = a0.tmps.getD t undef) → (∀ e ∈ o.after.toList, Region.binds .any e = true → ∀ (d : Nat) (R : Told), tab[e.on]? = some (d, R) → (bef e.on = false ∨ depB ops k0 k = true) → R (a.tmps.getD d undef) W ∧ d < a.tmps.size) →
      Region.wanted o (yielded ops a.tmps) = true ∧ ∃ v W', (execOp a.eval o).run P W = .ok (.value v) W' ∧ R v W' ∧ Ext W W') : SoftStepY k0 bef Rel P ops tab Q a0 w k o := by
  intro a W hx hout hdep d' R' ht
  rw [htab] at ht
  injection ht with ht
  injection ht with e1 e2
  subst e1
  subst e2
  obtain ⟨hw, v, W', hrun, hR, hE⟩ := h a W hx hout hdep
  unfold wpOp
  simp only [hk]
  rw [if_pos hw]
  refine Or.inl ?_
  unfold Oper.wp
  rw [hrun, Oper.upon_value, hd]
  exact ⟨v, rfl, hR, hE⟩
theorem softY_call {k0 : Nat} {bef : Nat → Bool} {Rel : World → World → Prop} {P : Program} {ops : Array Oper} {tab : SoftTab} {Q : Exit → Act → World → Prop} {a0 : Act} {w : World} {k : Nat} {o : Oper} (d : Nat) (R : Told) (hk : ops[k]? = some o) (hd : o.dst = some d) (htab : tab[k]? = some (d, R))
    (h : ∀ (a : Act) (W : World), Rel w W → (∀ t, t ∉ tab.map (·.1) → a.tmps.getD t undef = a0.tmps.getD t undef) → (∀ e ∈ o.after.toList, Region.binds .any e = true → ∀ (d : Nat) (R : Told), tab[e.on]? = some (d, R) → (bef e.on = false ∨ depB ops k0 k = true) → R (a.tmps.getD d undef) W ∧ d < a.tmps.size) →
      Region.wanted o (yielded ops a.tmps) = true ∧ ∃ f args, (execOp a.eval o).run P W = .ok (.enter f args) W ∧ Calls P f args W fun e W' => ∃ v, e = .returned v ∧ R v W' ∧ Ext W W') : SoftStepY k0 bef Rel P ops tab Q a0 w k o := by
  intro a W hx hout hdep d' R' ht
  rw [htab] at ht
  injection ht with ht
  injection ht with e1 e2
  subst e1
  subst e2
  obtain ⟨hw, f, args, hrun, hc⟩ := h a W hx hout hdep
  unfold wpOp
  simp only [hk]
  rw [if_pos hw]
  refine Or.inl ?_
  unfold Oper.wp
  rw [hrun, Oper.upon_enter]
  refine hc.mono ?_
  rintro e W' ⟨v, rfl, hR, hE⟩
  rw [hd]
  exact ⟨v, rfl, hR, hE⟩

theorem softZ_val {Rel : World → World → Prop} {P : Program} {ops : Array Oper} {tab : SoftTab} {Q : Exit → Act → World → Prop} {a0 : Act} {w : World} {k : Nat} {o : Oper} (d : Nat) (R : Told) (hk : ops[k]? = some o) (hd : o.dst = some d) (htab : tab[k]? = some (d, R))
    (h : ∀ (a : Act) (W : World), Rel w W → (∀ t, t ∉ tab.map (·.1) → a.tmps.getD t undef = a0.tmps.getD t undef) → (∀ e ∈ o.after.toList, Region.binds .any e = true → ∀ (d : Nat) (R : Told), tab[e.on]? = some (d, R) → R (a.tmps.getD d undef) W ∧ d < a.tmps.size) →
      Region.wanted o (yielded ops a.tmps) = true ∧ ∃ v W', (execOp a.eval o).run P W = .ok (.value v) W' ∧ R v W' ∧ Rel W W') : SoftStepZ Rel P ops tab Q a0 w k o := by
  intro a W hx hout hdep d' R' ht
  rw [htab] at ht
  injection ht with ht
  injection ht with e1 e2
  subst e1
  subst e2
  obtain ⟨hw, v, W', hrun, hR, hE⟩ := h a W hx hout hdep
  unfold wpOp
  simp only [hk]
  rw [if_pos hw]
  refine Or.inl ?_
  unfold Oper.wp
  rw [hrun, Oper.upon_value, hd]
  exact ⟨v, rfl, hR, hE⟩

theorem wp_soft_frameY (Rel : World → World → Prop) (k0 : Nat) (bef aft : Nat → Bool) {P : Program} {l : List Oper} (n : Nat) (tab : SoftTab) {Q : Exit → Act → World → Prop} {a : Act} {w : World} {id : Nat} (hm : P.follows .mixedOrders = true)
    (hform : softForm n l = true) (htrans : ∀ a b c, Rel a b → Rel b c → Rel a c) (hsub : ∀ a b, Ext a b → Rel a b) (hk0 : k0 < n)
    (hlen : tab.length = n) (hnd : (tab.map (·.1)).Nodup) (hsz : ∀ d ∈ tab.map (·.1), d < a.tmps.size) (haft : ∀ k, k < n → aft k = true → ∃ i, depB l.toArray k i = true ∧ (i = k0 ∨ (i < k ∧ aft i = true))) (hmono : SoftMonoY Rel k0 bef aft tab)
    (hend : ∀ (W : World) (f : Nat → Value), (∀ (k d : Nat) (R : Told), tab[k]? = some (d, R) → bef k = false → R (f d) W) → Rel w W → wpList P l.toArray Q (l.drop n) ⟨putAll a.tmps ((tab.map (·.1)).map fun d => (d, f d)), a.defers⟩ W)
    (hstep : SoftAllY Rel k0 bef P l.toArray tab Q a w (l.take n) 0) : (Code.region id l.toArray true).wp P Q a w := by
  refine wp_soft_tailY Rel k0 bef aft n tab hm hform htrans hsub hk0 hlen hnd hsz haft hmono (fun a' W hS => ?_) hstep
  have h1 := hend W (fun d => a'.tmps.getD d undef) (fun k d R hk hne => hS.told k d R hk (by
    have hk' : k < n := by have := (List.getElem?_eq_some_iff.1 hk).1; omega
    simp [doneTo, hk', List.getElem?_append]) (.inl hne)) hS.rel
  rw [← putAll_of a'.tmps _ a.tmps hS.size hS.out, ← hS.defers] at h1
  exact h1

end Go.Proofs.Ytdpmhhfpjpdfiaa
