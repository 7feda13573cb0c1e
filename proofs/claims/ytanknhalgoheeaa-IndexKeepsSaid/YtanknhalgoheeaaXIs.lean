/-
  What is asked of an index's calls, and the law's 'is' by it; no claim stands here.
-/
import Derived.Test.YtanknhalgoheeaaYMem
import Derived.Test.YtanknhalgoheeaaXFn
import Derived.Test.YtanknhalgoheeaaErr
import Derived.Test.YtanknhalgoheeaaBSm
namespace Go.Proofs.Ytanknhalgoheeaa
open Go.ChangeShapes Go.WideShapes Go.ChangeAt Go.RowKit Go.Sort
set_option linter.unusedVariables false
attribute [local go_sem] World.cell?_alloc_some

abbrev zE : En := ⟨0, 0, 0, false⟩
/-- an index's value -/
structure Xv where
  A : Option Addr
  n : Nat
  c : Nat
  l : Option Addr
  r : Option Addr
  h : Int
  m : Int
  s : Int
  lo : Int
  hi : Int
abbrev ixv (x : Xv) : Value := .agg #[.slice x.A x.n x.c, .pointer x.l, .pointer x.r, Vi x.h, Vi x.m, Vi x.s, Vq x.lo, Vq x.hi]
/-- in this block lies an index's value -/
def Bx (W : World) (b : Nat) (x : Xv) : Prop := PtC W b (.slice x.A x.n x.c) (.pointer x.l) (.pointer x.r) x.h x.m x.s x.lo x.hi
theorem Bx.ext {W W' : World} {b : Nat} {x : Xv} (h : Bx W b x) (hx : Ext W W') : Bx W' b x := PtC.ext h hx
theorem Bx.new (W : World) (x : Xv) (T : TypeId) : Bx (W.alloc (.cells #[.slice x.A x.n x.c, .pointer x.l, .pointer x.r, Vi x.h, Vi x.m, Vi x.s, Vq x.lo, Vq x.hi] T)) W.heap.size x := PtC.new _ _ _ _ _ _ _ _ _ _
theorem Bx.row {W : World} {b : Nat} {x : Xv} {T : TypeId} (h : W.heap[b]? = some (.cells #[.slice x.A x.n x.c, .pointer x.l, .pointer x.r, Vi x.h, Vi x.m, Vi x.s, Vq x.lo, Vq x.hi] T (0, 0))) : Bx W b x :=
  ⟨cell_of_row W b 0 _ _ _ h, cell_of_row W b 1 _ _ _ h, cell_of_row W b 2 _ _ _ h, cell_of_row W b 3 _ _ _ h, cell_of_row W b 4 _ _ _ h, cell_of_row W b 5 _ _ _ h, cell_of_row W b 6 _ _ _ h, cell_of_row W b 7 _ _ _ h⟩
/-- an index's reading calls; Ix: this value has these entries -/
structure IxR (Ix : World → Value → List En → Prop) : Prop where
  ext : ∀ {W W' : World} {v : Value} {l : List En}, Ix W v l → Ext W W' → Ix W' v l
  all : ∀ (W : World) (v : Value) (l : List En), Ix W v l → l.length ≤ 1000 → Calls Try.prog 22 #[v] W fun e w' => ∃ A c, e = .returned (.slice A l.length c) ∧ EnS w' A l ∧ Ext W w'
  len : ∀ (W : World) (v : Value) (l : List En), Ix W v l → l.length ≤ 1000 → Calls Try.prog 14 #[v] W fun e w' => e = .returned (Vi (l.length : Int)) ∧ Ext W w'
  shown : ∀ (W : World) (v : Value) (l : List En), Ix W v l → l.length ≤ 1000 → Calls Try.prog 17 #[v] W fun e w' => e = .returned (Vi ((shownE l).length : Int)) ∧ Ext W w'
  entry : ∀ (W : World) (v : Value) (l : List En) (q : Nat) (x : En), Ix W v l → l.length ≤ 1000 → l[q]? = some x → Calls Try.prog 16 #[v, Vi (q : Int)] W fun e w' => e = .returned (.tuple #[env x, .nilIface]) ∧ Ext W w'
  entryNo : ∀ (W : World) (v : Value) (l : List En) (z : Int), Ix W v l → l.length ≤ 1000 → -2 ≤ z ∧ z ≤ 2000 → (z < 0 ∨ (l.length : Int) ≤ z) → Calls Try.prog 16 #[v, Vi z] W fun e w' => e = .returned (.tuple #[env zE, errv 3]) ∧ Ext W w'
  at' : ∀ (W : World) (v : Value) (l : List En) (q p : Nat), Ix W v l → l.length ≤ 1000 → (shownE l)[q]? = some p → Calls Try.prog 18 #[v, Vi (q : Int)] W fun e w' => e = .returned (.tuple #[Vi (p : Int), .nilIface]) ∧ Ext W w'
  atNo : ∀ (W : World) (v : Value) (l : List En) (z : Int), Ix W v l → l.length ≤ 1000 → -2 ≤ z ∧ z ≤ 2000 → (z < 0 ∨ ((shownE l).length : Int) ≤ z) → Calls Try.prog 18 #[v, Vi z] W fun e w' => e = .returned (.tuple #[Vi 0, errv 3]) ∧ Ext W w'
  find : ∀ (W : World) (v : Value) (l : List En) (c k : Int) (q : Nat), Ix W v l → l.length ≤ 1000 → findE l c k = some q → Calls Try.prog 15 #[v, idv c k] W fun e w' => e = .returned (.tuple #[Vi (q : Int), .bool true]) ∧ Ext W w'
  findNo : ∀ (W : World) (v : Value) (l : List En) (c k : Int), Ix W v l → l.length ≤ 1000 → findE l c k = none → Calls Try.prog 15 #[v, idv c k] W fun e w' => e = .returned (.tuple #[Vi 0, .bool false]) ∧ Ext W w'

theorem en_neq0 (W : World) : (binOp .neq 38 (.agg #[.int .u32 0, .int .u32 0, .int .i32 0, .bool false]) (.agg #[.int .u32 0, .int .u32 0, .int .i32 0, .bool false])).run Try.prog W = .ok (.bool false) W := en_neq zE W

set_option maxRecDepth 100000 in
set_option maxHeartbeats 16000000 in
theorem is_any {Ix : World → Value → List En → Prop} (M : IxR Ix) (xv : Xv) (A : Option Addr) (n cap : Nat) (l : List En) (c k : Int) (w : World) (hI : Ix w (ixv xv) l) (hv : EnS w A l) (hn : l.length = n) (hb : n ≤ 1000) :
    Calls Try.prog 8 #[ixv xv, .slice A n cap, idv c k] w fun e w' => e = .returned (Vi 1) ∧ Ext w w' := by
  have hl : l.length ≤ 1000 := by omega
  have hall := Lib.hid (fun W (hx : Ext w W) => M.all W _ l (M.ext hI hx) hl)
  have hlen := Lib.hid (fun W (hx : Ext w W) => M.len W _ l (M.ext hI hx) hl)
  have hsh := Lib.hid (fun W (hx : Ext w W) => M.shown W _ l (M.ext hI hx) hl)
  have hent := Lib.hid (fun W (hx : Ext w W) (q : Nat) (x : En) (hq : l[q]? = some x) => M.entry W _ l q x (M.ext hI hx) hl hq)
  have hentN := Lib.hid (fun W (hx : Ext w W) (z : Int) (h1 : -2 ≤ z ∧ z ≤ 2000) (h2 : z < 0 ∨ (l.length : Int) ≤ z) => M.entryNo W _ l z (M.ext hI hx) hl h1 h2)
  have hat := Lib.hid (fun W (hx : Ext w W) (q p : Nat) (hq : (shownE l)[q]? = some p) => M.at' W _ l q p (M.ext hI hx) hl hq)
  have hatN := Lib.hid (fun W (hx : Ext w W) (z : Int) (h1 : -2 ≤ z ∧ z ≤ 2000) (h2 : z < 0 ∨ ((shownE l).length : Int) ≤ z) => M.atNo W _ l z (M.ext hI hx) hl h1 h2)
  have hfd := Lib.hid (fun W (hx : Ext w W) (q : Nat) (hq : findE l c k = some q) => M.find W _ l c k q (M.ext hI hx) hl hq)
  have hfdN := Lib.hid (fun W (hx : Ext w W) (hq : findE l c k = none) => M.findNo W _ l c k (M.ext hI hx) hl hq)
  have hshr := Lib.hid (fun W (hx : Ext w W) => shownRef_any A n cap l W (hv.ext hx) hn (by omega))
  have hfl := Lib.hid (fun W (hx : Ext w W) => findL_any A n cap l c k W (hv.ext hx) hn (by omega))
  have hsl : (shownE l).length ≤ n := by rw [← hn]; exact shown_len l 0
  have hcode := Lib.hid (fun W => code_any 3 W (by omega) (by omega))
  have hne0 := en_neq0
  replace hn := Lib.hid hn
  replace hv := Lib.hid hv
  clear hI hl
  go_enter Try.func8, Try.ntmps8
  go_wp2_with fail
  have x0 : Ext w ((w.alloc (.cells #[.slice xv.A xv.n xv.c, .pointer xv.l, .pointer xv.r, Vi xv.h, Vi xv.m, Vi xv.s, Vq xv.lo, Vq xv.hi] 31)).alloc (.cells #[.int .u32 c, .int .u32 k] 36)) := ((Ext.refl _).alloc _).alloc _
  refine (hshr.out _ x0).mono ?_
  rintro e w1 ⟨vs, rfl, os, x1⟩
  have hbx := Lib.hid (((Bx.new w xv 31).ext ((Ext.refl _).alloc (.cells #[.int .u32 c, .int .u32 k] 36))).ext x1)
  obtain ⟨a0, a1, a2, a3, a4, a5, a6, a7⟩ := hbx.out
  have b0 := x1.keep (p := ⟨w.heap.size + 1, 0, none⟩) (v := Vu c) (by simp [go_sem])
  have b1 := x1.keep (p := ⟨w.heap.size + 1, 1, none⟩) (v := Vu k) (by simp [go_sem])
  have y1 := x0.trans x1
  obtain ⟨As, cs, rfl, hcs, hrs⟩ := OwnZ.open os
  replace hrs := Lib.hid hrs
  clear x0 x1 os hshr
  generalize w.heap.size = pa at *
  go_wp2_with fail
  refine (hall.out _ y1).mono ?_
  rintro e w2 ⟨A2, c2, rfl, hE2, x2⟩
  have hse := Lib.hid (sameE_any A2 A n c2 cap l w2 hE2 (hv.out.ext (y1.trans x2)) hn.out (by omega))
  have y2 := y1.trans x2
  clear hE2
  rw [hn.out]
  go_wp2_with fail
  refine hse.out.mono ?_
  rintro e w3 ⟨rfl, x3⟩
  have y3 := y2.trans x3
  have x13 := x2.trans x3
  clear a0 a1 a2 a3 a4 a5 a6 a7
  obtain ⟨a0, a1, a2, a3, a4, a5, a6, a7⟩ := hbx.out.ext x13
  clear hse x2 x3
  go_wp2_with fail
  refine (hlen.out _ y3).mono ?_
  rintro e w4 ⟨rfl, x4⟩
  rw [hn.out]
  have y4 := y3.trans x4
  have x14 := x13.trans x4
  clear a0 a1 a2 a3 a4 a5 a6 a7
  obtain ⟨a0, a1, a2, a3, a4, a5, a6, a7⟩ := hbx.out.ext x14
  clear x4 x13 y3
  go_wp2_with fail
  refine (hsh.out _ y4).mono ?_
  rintro e w5 ⟨rfl, x5⟩
  have y5 := y4.trans x5
  have x15 := x14.trans x5
  clear x5 x14 y4 hlen hsh hall a0 a1 a2 a3 a4 a5 a6 a7
  generalize hsd : (shownE l).length = s at *
  replace hsd := Lib.hid hsd
  go_wp2
  go_loopw [9] (fun i W => ∃ z : Int, i = Vi z ∧ -1 ≤ z ∧ z ≤ n + 1 ∧ Ext w5 W) (fun i _ => (n + 2 - intOf i).toNat)
  case atStart => exact ⟨-1, rfl, by omega, by omega, Ext.refl _⟩
  case round =>
    obtain ⟨z, rfl, hz1, hz2, hx⟩ := hrel
    have yr := y5.trans hx
    obtain ⟨a0, a1, a2, a3, a4, a5, a6, a7⟩ := hbx.out.ext (x15.trans hx)
    have hwz : IntKind.i64.wrap (z + 1) = z + 1 := IntWalk.i64_in _ (by omega)
    by_cases hend : (n : Int) < z
    · have hd0 : decide (z ≤ (n : Int)) = false := by rw [decide_eq_false_iff_not]; omega
      clear a0 a1 a2 a3 a4 a5 a6 a7
      go_wp2
      go_loopw [12] (fun i W => ∃ z : Int, i = Vi z ∧ -1 ≤ z ∧ z ≤ s + 1 ∧ Ext w5 W) (fun i _ => (s + 2 - intOf i).toNat)
      case atStart => exact ⟨-1, rfl, by omega, by omega, hx⟩
      case round =>
        clear hx yr
        obtain ⟨z, rfl, hz1, hz2, hx⟩ := hrel
        have yr := y5.trans hx
        obtain ⟨a0, a1, a2, a3, a4, a5, a6, a7⟩ := hbx.out.ext (x15.trans hx)
        have hwz : IntKind.i64.wrap (z + 1) = z + 1 := IntWalk.i64_in _ (by omega)
        by_cases hend2 : (s : Int) < z
        · have hd0 : decide (z ≤ (s : Int)) = false := by rw [decide_eq_false_iff_not]; omega
          clear hat hatN hcode
          have bf0 := (x15.trans hx).keep b0
          have bf1 := (x15.trans hx).keep b1
          clear hent hentN hne0 hrs
          cases hf : findE l c k with
          | some q =>
            have hc1 := Lib.hid (hfd.out _ yr q hf)
            rw [findV_some hf] at hfl
            have hm0 : decide ((0 : Int) ≤ (q : Int)) = true := by rw [decide_eq_true_eq]; omega
            have hmx : max (q : Int) 0 = (q : Int) := by omega
            have hq0 : ¬ ((q : Int) < 0) := by omega
            clear hfd hfdN hf
            go_wp2_with fail
            refine hc1.out.mono ?_
            rintro e w6 ⟨rfl, x6⟩
            have y6 := yr.trans x6
            have d0 := x6.keep bf0
            have d1 := x6.keep bf1
            go_wp2_with fail
            refine (hfl.out _ y6).mono ?_
            rintro e w7 ⟨rfl, x7⟩
            go_wp2
            go_ret
            exact ⟨rfl, y6.trans x7⟩
          | none =>
            have hc1 := Lib.hid (hfdN.out _ yr hf)
            rw [findV_none hf] at hfl
            clear hfd hfdN hf
            go_wp2_with fail
            refine hc1.out.mono ?_
            rintro e w6 ⟨rfl, x6⟩
            have y6 := yr.trans x6
            have d0 := x6.keep bf0
            have d1 := x6.keep bf1
            go_wp2_with fail
            refine (hfl.out _ y6).mono ?_
            rintro e w7 ⟨rfl, x7⟩
            go_wp2
            go_ret
            exact ⟨rfl, y6.trans x7⟩
        · have hd0 : decide (z ≤ (s : Int)) = true := by rw [decide_eq_true_eq]; omega
          by_cases hout : z < 0 ∨ (s : Int) ≤ z
          · have he := Lib.hid (hatN.out wr yr z (by omega) hout)
            have hd2 : (decide (z < 0) = true) ∨ (decide (z < 0) = false ∧ (z == (s : Int)) = true) := by
              rcases hout with h | h
              · exact .inl (decide_eq_true h)
              · by_cases h2 : z < 0
                · exact .inl (decide_eq_true h2)
                · exact .inr ⟨decide_eq_false h2, by simp; omega⟩
            rcases hd2 with hd1 | ⟨hd1, hd3⟩
            · clear hout
              go_wp2_with fail
              refine he.out.mono ?_
              rintro e w6 ⟨rfl, x6⟩
              go_wp2_with fail
              refine (hcode.out _).mono ?_
              rintro e w7 ⟨rfl, rfl⟩
              go_wp2
              go_roundw
              case rel => exact ⟨z + 1, by go_num, by omega, by omega, hx.trans x6⟩
              case measure => simp [intOf]; omega
            · clear hout
              have hzs : z = (s : Int) := by simpa using hd3
              subst hzs
              go_wp2_with fail
              refine he.out.mono ?_
              rintro e w6 ⟨rfl, x6⟩
              go_wp2_with fail
              refine (hcode.out _).mono ?_
              rintro e w7 ⟨rfl, rfl⟩
              go_wp2
              go_roundw
              case rel => exact ⟨s + 1, by go_num, by omega, by omega, hx.trans x6⟩
              case measure => simp [intOf]; try omega
          · obtain ⟨q, rfl⟩ : ∃ q : Nat, z = q := ⟨z.toNat, by omega⟩
            obtain ⟨pl, hpl⟩ : ∃ pl, (shownE l)[q]? = some pl := ⟨(shownE l)[q]'(by rw [hsd.out]; omega), List.getElem?_eq_getElem _⟩
            have he := Lib.hid (hat.out wr yr q pl hpl)
            have hd1 : decide ((q : Int) < 0) = false := by rw [decide_eq_false_iff_not]; omega
            have hd3 : ((q : Int) == (s : Int)) = false := by simp; omega
            obtain ⟨bs, oo, hAs, hcell⟩ := (hrs.out.ext (x15.trans hx)) (by rw [List.length_map, hsd.out]; omega)
            have hq1 := hcell q (Vz pl) (by rw [List.getElem?_map, hpl]; rfl)
            subst hAs
            have hi1 : (0 : Int) ≤ (q : Int) := by omega
            have hi2 : (q : Int) < (s : Int) := by omega
            clear hout hcell hpl
            go_wp2_with fail
            refine he.out.mono ?_
            rintro e w6 ⟨rfl, x6⟩
            have hq2 := x6.keep hq1
            have hne : ((pl : Int) == (pl : Int)) = true := by simp
            go_wp2
            go_roundw
            case rel => exact ⟨q + 1, by go_num, by omega, by omega, hx.trans x6⟩
            case measure => simp [intOf]; omega
    · have hd0 : decide (z ≤ (n : Int)) = true := by rw [decide_eq_true_eq]; omega
      by_cases hout : z < 0 ∨ (n : Int) ≤ z
      · have he := Lib.hid (hentN.out wr yr z (by omega) (by rw [hn.out]; exact hout))
        have hd2 : (decide (z < 0) = true) ∨ (decide (z < 0) = false ∧ (z == (n : Int)) = true) := by
          rcases hout with h | h
          · exact .inl (decide_eq_true h)
          · by_cases h2 : z < 0
            · exact .inl (decide_eq_true h2)
            · exact .inr ⟨decide_eq_false h2, by simp; omega⟩
        rcases hd2 with hd1 | ⟨hd1, hd3⟩
        · clear hout
          go_wp2_with fail
          refine he.out.mono ?_
          rintro e w6 ⟨rfl, x6⟩
          go_wp2_with fail
          refine (hcode.out _).mono ?_
          rintro e w7 ⟨rfl, rfl⟩
          go_wp2
          go_roundw
          case rel => exact ⟨z + 1, by go_num, by omega, by omega, (hx.trans x6).alloc _⟩
          case measure => simp [intOf]; omega
        · clear hout
          have hzs : z = (n : Int) := by simpa using hd3
          subst hzs
          go_wp2_with fail
          refine he.out.mono ?_
          rintro e w6 ⟨rfl, x6⟩
          go_wp2_with fail
          refine (hcode.out _).mono ?_
          rintro e w7 ⟨rfl, rfl⟩
          go_wp2
          go_roundw
          case rel => exact ⟨n + 1, by go_num, by omega, by omega, (hx.trans x6).alloc _⟩
          case measure => simp [intOf]; try omega
      · obtain ⟨q, rfl⟩ : ∃ q : Nat, z = q := ⟨z.toNat, by omega⟩
        obtain ⟨b, o, x, rfl, hp, d⟩ := (hv.out.ext yr).at (k := q) (by rw [hn.out]; omega)
        have he := Lib.hid (hent.out wr yr q x hp)
        have hd1 : decide ((q : Int) < 0) = false := by rw [decide_eq_false_iff_not]; omega
        have hd3 : ((q : Int) == (n : Int)) = false := by simp; omega
        have hi1 : (0 : Int) ≤ (q : Int) := by omega
        have hi2 : (q : Int) < (n : Int) := by omega
        have hnq := en_neq x
        clear hout hp
        go_wp2_with fail
        refine he.out.mono ?_
        rintro e w6 ⟨rfl, x6⟩
        obtain ⟨c0, c1, c2, c3⟩ := d.ext x6
        go_wp2
        go_quiet (fail)
        go_wp2
        go_roundw
        case rel => exact ⟨q + 1, by go_num, by omega, by omega, ((hx.trans x6).alloc _).drewN _⟩
        case measure => simp [intOf]; omega

end Go.Proofs.Ytanknhalgoheeaa
