/-
  The walk of BatchBack; no claim stands here.
-/
import Derived.Test.YthpminlfbjedpaaDoorZS
namespace Go.Proofs.YthpminlfbjedpaaDoor
open Go.ChangeShapes Go.WideShapes Go.ChangeAt Go.RowKit Go.Sort
set_option linter.unusedVariables false
attribute [local go_sem] World.cell?_alloc_some

theorem bat_small2 {rs : List Rn} {ds : List Sp} (h1 : rs.length ≤ 40) (h2 : ds.length ≤ 40) (ht : ∀ r ∈ rs, r.t.length ≤ 200) : (batB rs ds).length ≤ 19999 := by
  have a1 := numB_five rs.length
  have a2 := numB_five ds.length
  have a3 := flat_bound runB 235 rs fun r hr => by
    have := ht r hr
    have b1 := numB_five r.c.toNat
    have b2 := numB_five r.k.toNat
    have b3 := numB_five r.lc.toNat
    have b4 := numB_five r.lk.toNat
    have b5 := numB_five r.rc.toNat
    have b6 := numB_five r.rk.toNat
    have b7 := numB_five r.t.length
    rw [runB_four, putT]
    simp only [List.length_append]
    omega
  have a4 := flat_bound spanB 15 ds fun s hs => by
    obtain ⟨x, y, z⟩ := s
    have b1 := numB_five x.toNat
    have b2 := numB_five y.toNat
    have b3 := numB_five z.toNat
    rw [spanB_three]
    simp only [List.length_append]
    omega
  have a5 : rs.length * 235 ≤ 40 * 235 := Nat.mul_le_mul_right _ h1
  have a6 : ds.length * 15 ≤ 40 * 15 := Nat.mul_le_mul_right _ h2
  rw [batB]
  simp only [List.length_append]
  omega
/-- Get tells that there is none -/
def GetNo (w : World) (e : Ending) (w' : World) : Prop := e = .returned (.tuple #[nilB, .iface 58 (.int .i64 2)]) ∧ Ext w w'
theorem getNo_of {w : World} {r : Option (List Rn × List Sp)} (h : r = none) {e : Ending} {w' : World} (hh : GetRet w r e w') : GetNo w e w' := by subst h; exact hh
theorem getYes_of {w : World} {r : Option (List Rn × List Sp)} {rs : List Rn} {ds : List Sp} (h : r = some (rs, ds)) {e : Ending} {w' : World} (hh : GetRet w r e w') :
    ∃ vr vd, e = .returned (.tuple #[.agg #[vr, vd], .nilIface]) ∧ OwnR w w' vr rs ∧ OwnS w w' vd ds ∧ Ext w w' := by subst h; exact hh
theorem putNo_of {w : World} {L : List UInt8} {e : Ending} {w' : World} (hh : PutRet w false L e w') : e = .returned (.tuple #[.slice none 0 0, .iface 58 (.int .i64 1)]) ∧ Ext w w' := hh

set_option maxRecDepth 100000 in
set_option maxHeartbeats 32000000 in
theorem batchBack_small (W : World) (hT : Tabs W) (A : Option Addr) (c : Nat) (B : Option Addr) (d : Nat) (rs : List Rn) (ds : List Sp) (hR : RnS W A rs) (hw : ∀ q ∈ rs, wfR q ∧ q.t.length ≤ maxLen) (hS : SpS W B ds) (hwd : wfS ds)
    (A1 : Option Addr) (n1 c1 : Nat) (l1 : List UInt8) (hn1 : l1.length = n1) (hc1 : n1 ≤ c1) (hs1 : Bys W A1 l1) (x2 : Int) (hx2 : -9223372036854775808 ≤ x2 ∧ x2 ≤ 9223372036854775807) (bb : UInt8)
    (hsm : smallB rs ds.length = true) (hbig : n1 ≤ 3000) :
    Calls Tryd.prog 4 #[batv A rs.length c B ds.length d, .slice A1 n1 c1, Vi x2, Vb bb] W fun e W' => e = .returned (.bool true) ∧ Ext W W' := by
  have hup0 := Lib.hid (up6_any (W.alloc (.cells #[.slice A rs.length c, .slice B ds.length d] 25)) (hT.ext ((Ext.refl W).alloc _)))
  have hsmc := Lib.hid (fun (Z : World) (hx : Ext W Z) => small_any A rs.length c B ds.length d rs Z (hR.ext hx) rfl)
  obtain ⟨h40, h41, h200⟩ := small_true hsm
  rw [hsm] at hsmc
  simp only [if_true] at hsmc
  have g1 : decide ((3000 : Int) < (n1 : Int)) = false := by rw [decide_eq_false_iff_not]; omega
  have hL := bat_small h40 h41 h200
  have hw1 : ∀ r ∈ rs, wfR r ∧ r.t.length ≤ 20000 := fun r hr => ⟨(hw r hr).1, by have := h200 r hr; omega⟩
  have hw3 : ∀ r ∈ rs, wfR r ∧ r.t.length < 4294967296 := fun r hr => ⟨(hw r hr).1, by have := h200 r hr; omega⟩
  have hput := Lib.hid (fun (Z : World) (hx : Ext W Z) => putBat_any A rs.length c B ds.length d rs ds Z (hT.ext hx) (hR.ext hx) rfl (hS.ext hx) rfl hw1 hwd (by omega) (by omega) hL)
  have hLpos : 2 ≤ (batB rs ds).length := by
    rw [batB]
    simp only [List.length_append, numB_len]
    omega
  have hgc : Hid (mayB rs ds = true → ∀ (Z : World) (AA : Option Addr) (cc : Nat) (hx : Ext W Z) (hb : Bys Z AA (batB rs ds)) (hc : (batB rs ds).length ≤ cc), Calls Tryd.prog 10 #[.slice AA (batB rs ds).length cc] Z fun e w' => ∃ vr vd, e = .returned (.tuple #[.agg #[vr, vd], .nilIface]) ∧ OwnR Z w' vr rs ∧ OwnS Z w' vd ds ∧ Ext Z w') := Lib.hid fun hmb Z AA cc hx hb hc => by
    refine (getBat_any (hT.ext hx) hb rfl hc hL (fun rs' ds' e h _ => ?_)).mono (fun e w' hh => getYes_of (getBat_put hw3 hwd (by omega) (by omega) hmb hL) hh)
    have := parse_put (may_put hw3 hmb) hwd (by omega) (by omega) []
    rw [List.append_nil, h] at this
    simp only [Option.some.injEq, Prod.mk.injEq] at this
    rw [this.2.1]
    omega
  have hgm : Hid (mayB rs ds = true → ∀ (Z : World) (AA : Option Addr) (cc : Nat) (hx : Ext W Z) (hb : Bys Z AA (batB rs ds ++ [bb])) (hc : (batB rs ds).length + 1 ≤ cc), Calls Tryd.prog 10 #[.slice AA ((batB rs ds).length + 1) cc] Z (GetNo Z)) := Lib.hid fun hmb Z AA cc hx hb hc => by
    refine (getBat_any (hT.ext hx) hb (by simp) hc (by have := bat_small2 h40 h41 h200 (ds := ds); omega) (fun rs' ds' e h he => ?_)).mono (fun e w' hh => getNo_of (getBat_more hw3 hwd (by omega) (by omega) hmb [bb] (by simp)) hh)
    have := parse_put (may_put hw3 hmb) hwd (by omega) (by omega) [bb]
    rw [h] at this
    simp only [Option.some.injEq, Prod.mk.injEq] at this
    omega
  have hgk : Hid (mayB rs ds = true → ∀ (Z : World) (AA : Option Addr) (cc k : Nat) (hk : k < (batB rs ds).length) (hx : Ext W Z) (hb : Bys Z AA ((batB rs ds).take k)) (hc : k ≤ cc), Calls Tryd.prog 10 #[.slice AA k cc] Z (GetNo Z)) := Lib.hid fun hmb Z AA cc k hk hx hb hc => by
    have hlk : ((batB rs ds).take k).length = k := by rw [List.length_take]; omega
    refine (getBat_any (hT.ext hx) hb hlk hc (by omega) (fun rs' ds' e h he => ?_)).mono (fun e w' hh => getNo_of (getBat_cut hw3 hwd (by omega) (by omega) hmb k hk hL) hh)
    exfalso
    have h2 := parse_more h (by omega) ((batB rs ds).drop k)
    subst he
    rw [List.take_take, Nat.min_self, List.take_append_drop] at h2
    have h3 := parse_put (may_put hw3 hmb) hwd (by omega) (by omega) []
    rw [List.append_nil, h2] at h3
    simp only [Option.some.injEq, Prod.mk.injEq] at h3
    omega
  have hgb0 := Lib.hid (fun (Z : World) (hx : Ext W Z) => getBat_any (hT.ext hx) (hs1.ext hx) hn1 hc1 (by omega) (bd_short hn1 (by omega)))
  have hpick := Lib.hid (fun (Z : World) => pick_any x2 (batB rs ds).length Z (by omega) (by omega) hx2)
  have hll : ∀ rs2 ds2, getBat l1 = some (rs2, ds2) → (mayB rs2 ds2 = true ∧ batB rs2 ds2 = l1) ∧ (∀ r ∈ rs2, wfR r ∧ r.t.length ≤ 20000) ∧ wfS ds2 ∧ ds2.length ≤ 1000 ∧ rs2.length ≤ 10000 ∧ (batB rs2 ds2).length ≤ 20000 := fun rs2 ds2 h => by
    obtain ⟨h1, h2, h3, h4, h5⟩ := getBat_back h
    have h6 : l1.length = (batB rs2 ds2).length := by rw [h1]
    have b1 : rs2.length ≤ (rs2.flatMap runB).length := flat_least rs2 fun r => by rw [runB_four, putT]; simp only [List.length_append, numB_len]; omega
    have b3 : ds2.length * 3 ≤ (ds2.flatMap spanB).length := flat_least3 ds2 fun s => by obtain ⟨x, y, z⟩ := s; rw [spanB_three]; simp only [List.length_append, numB_len]; omega
    have b4 : (batB rs2 ds2).length = (numB rs2.length).length + (rs2.flatMap runB).length + (numB ds2.length).length + (ds2.flatMap spanB).length := by rw [batB]; simp only [List.length_append]
    exact ⟨⟨h2, h1⟩, fun r hr => ⟨(h3 r hr).1, by have := text_le (ds := ds2) hr; omega⟩, wfS_of h4, by omega, by omega, by omega⟩
  replace hR := Lib.hid hR
  replace hS := Lib.hid hS
  replace hs1 := Lib.hid hs1
  replace hT := Lib.hid hT
  clear hw1 hw3 hw hwd h200 hsm
  obtain ⟨L, hLd⟩ : ∃ L, batB rs ds = L := ⟨_, rfl⟩
  rw [hLd] at hput hgc hgm hgk hpick hL hLpos
  clear hLd
  have hne : ((L.length : Int) == 0) = false := by simp; intro h; rw [h] at hLpos; simp at hLpos
  have hne2 : ¬ (L = []) := by intro h; rw [h] at hLpos; simp at hLpos
  generalize mayB rs ds = M at *
  generalize getBat l1 = G at *
  go_enter Tryd.func4, Tryd.ntmps4
  go_wp2_with fail
  refine hup0.out.mono ?_
  rintro e w0 ⟨rfl, x0⟩
  have a0' := x0.keep (p := ⟨W.heap.size, 0, none⟩) (v := .slice A rs.length c) (by simp [go_sem])
  have a1' := x0.keep (p := ⟨W.heap.size, 1, none⟩) (v := .slice B ds.length d) (by simp [go_sem])
  have z0 : Ext W w0 := ((Ext.refl _).alloc _).trans x0
  clear x0 hup0
  generalize W.heap.size = pa at *
  go_wp2_with fail
  refine (hsmc.out _ z0).mono ?_
  rintro e w0' ⟨rfl, x0'⟩
  have y0 := z0.trans x0'
  have a0 := x0'.keep a0'
  have a1 := x0'.keep a1'
  clear hsmc x0' z0 a0' a1'
  cases M with
  | true =>
    replace hgc := Lib.hid (hgc.out rfl)
    replace hgm := Lib.hid (hgm.out rfl)
    replace hgk := Lib.hid (hgk.out rfl)
    go_wp2_with fail
    refine (hput.out _ y0).mono ?_
    rintro e w1 ⟨vc, rfl, oc, x1⟩
    obtain ⟨Ac, cc, rfl, hcc, hBc0⟩ := OwnB.open oc
    clear hput
    have hBc := Lib.hid hBc0
    have y2 := y0.trans x1
    have b0 := x1.keep a0
    have b1 := x1.keep a1
    clear oc hBc0
    go_wp2_with fail
    refine (hgc.out _ Ac cc y2 hBc.out hcc).mono ?_
    rintro e w3 ⟨vr, vd, rfl, or3, od3, x3⟩
    obtain ⟨Ay, cy, rfl, _, hRy⟩ := OwnR.open or3
    obtain ⟨Dy, dy, rfl, hSy⟩ := SpS.own od3
    have y3 := y2.trans x3
    obtain ⟨W4, hW4⟩ : ∃ Z, w3.alloc (.cells #[.slice Ay rs.length cy, .slice Dy ds.length dy] 25) = Z := ⟨_, rfl⟩
    have x4 : Ext w3 W4 := by rw [← hW4]; exact (Ext.refl _).alloc _
    have hz4 : W4.heap.size = w3.heap.size + 1 := by rw [← hW4]; simp
    have p0 : W4.cell? ⟨w3.heap.size, 0, none⟩ = some (.slice Ay rs.length cy) := by rw [← hW4]; simp [go_sem]
    have p1 : W4.cell? ⟨w3.heap.size, 1, none⟩ = some (.slice Dy ds.length dy) := by rw [← hW4]; simp [go_sem]
    have c0 := (x3.trans x4).keep b0
    have c1' := (x3.trans x4).keep b1
    have hBc4 := Lib.hid (hBc.out.ext (x3.trans x4))
    have hRy4 := Lib.hid (hRy.ext x4)
    have hSy4 := Lib.hid (hSy.ext x4)
    have y4 := y3.trans x4
    have x5 : Ext W4 (W4.alloc (.cells #[] 5)) := (Ext.refl _).alloc _
    have hown : OwnB W4 (W4.alloc (.cells #[] 5)) (.slice (some ⟨w3.heap.size + 1, 0, none⟩) 0 0) [] := by have h := OwnB.new (Ext.refl W4) [] (by simp) #[] rfl; rw [hz4] at h; exact h
    have hBc5 := Lib.hid (hBc4.out.ext x5)
    replace hown := Lib.hid hown
    clear or3 od3 hRy hSy hBc x3 x4 b0 b1 y3
    go_wp2_with (first
            | (at_builtin
               refine wpList_append_B (w0 := W4) rfl (.tmp 49) (.tmp 50) rfl _ [] rfl hown.out x5 Ac L.length cc L rfl rfl hBc5.out (by simp only [List.length_nil]; omega) ?_
               intro v5 w5 o5 x6 _
               rw [List.nil_append] at o5)
            | (at_builtin
               refine wpList_append_B (w0 := W4) rfl (.tmp 51) (.tmp 53) rfl _ L rfl (o5.ext ((Ext.refl _).alloc _)) (x6.alloc _) _ 1 1 [bb] rfl rfl (Bys.new _ [bb] _ rfl) (by simp only [List.length_cons, List.length_nil]; omega) ?_
               intro v7 w7 o7 x7 _
               obtain ⟨A7, c7, e7, hc7, hB7⟩ := OwnB.open o7
               rw [show (L ++ [bb]).length = L.length + 1 by simp] at e7 hc7
               subst e7))
    clear hown o5 x6 x5 hBc5
    have y7 := y4.trans x7
    refine (hgm.out _ A7 c7 y7 hB7 hc7).mono ?_
    rintro e w8 ⟨rfl, x8⟩
    have x8a : Ext w8 (w8.alloc (.cells #[.slice none 0 0, .slice none 0 0] 25)) := (Ext.refl _).alloc _
    have x88 := (x7.trans x8).trans x8a
    have y8 := y4.trans x88
    have d0 := x88.keep c0
    have d1 := x88.keep c1'
    have q0 := x88.keep p0
    have q1 := x88.keep p1
    have hBc8 := Lib.hid (hBc4.out.ext x88)
    have hRy8 := Lib.hid (hRy4.out.ext x88)
    have hSy8 := Lib.hid (hSy4.out.ext x88)
    clear o7 hB7 x7 x8 x8a x88 hBc4 hRy4 hSy4 c0 c1' p0 p1 y7
    go_wp2_with fail
    refine (hpick.out _).mono ?_
    rintro e w9 ⟨k, hk, rfl, rfl⟩
    have hup := uptoB Ac L.length cc k (by omega) (k : Int) rfl
    have hg9 := Lib.hid (hgk.out _ Ac cc k hk y8 (hBc8.out.take k) (by omega))
    go_wp2_with fail
    refine hg9.out.mono ?_
    rintro e wA ⟨rfl, xA⟩
    have xAa : Ext wA (wA.alloc (.cells #[.slice none 0 0, .slice none 0 0] 25)) := (Ext.refl _).alloc _
    have xAA := xA.trans xAa
    have yA := y8.trans xAA
    have e0 := xAA.keep d0
    have e1 := xAA.keep d1
    have r0 := xAA.keep q0
    have r1 := xAA.keep q1
    have hsm := Lib.hid (sameBat_any A B Ay Dy rs.length c cy ds.length d dy rs ds (wA.alloc (.cells #[.slice none 0 0, .slice none 0 0] 25)) (hR.out.ext yA) (hRy8.out.ext xAA) rfl (hS.out.ext yA) (hSy8.out.ext xAA) rfl (by omega) (by omega))
    clear hup hg9 hBc8 hRy8 hSy8 d0 d1 q0 q1 xA xAa xAA
    go_wp2_with fail
    refine hsm.out.mono ?_
    rintro e wB ⟨rfl, xB⟩
    have yB := yA.trans xB
    clear hsm e0 e1 r0 r1 xB
    clear hgc hgm hgk hpick
    cases G with
    | none =>
      have hgb := Lib.hid (fun (Z : World) (hx : Ext W Z) => (hgb0.out Z hx).mono (fun e w' hh => getNo_of rfl hh))
      go_wp2_with fail
      refine (hgb.out _ yB).mono ?_
      rintro e wA ⟨rfl, xA⟩
      go_wp2
      go_ret
      exact ⟨rfl, (yB.trans xA).alloc _⟩
    | some rd =>
      obtain ⟨rs2, ds2⟩ := rd
      have hb2 := hll rs2 ds2 rfl
      have hgb := Lib.hid (fun (Z : World) (hx : Ext W Z) => (hgb0.out Z hx).mono (fun e w' hh => getYes_of rfl hh))
      go_wp2_with fail
      refine (hgb.out _ yB).mono ?_
      rintro e wA ⟨vr, vd, rfl, orA, odA, xA⟩
      obtain ⟨Ar, cr, rfl, _, hRr⟩ := OwnR.open orA
      obtain ⟨Ad, cd, rfl, hSd⟩ := SpS.own odA
      have yA := yB.trans xA
      have xB : Ext wA (wA.alloc (.cells #[.slice Ar rs2.length cr, .slice Ad ds2.length cd] 25)) := (Ext.refl _).alloc _
      have hp2 := Lib.hid (putBat_any Ar rs2.length cr Ad ds2.length cd rs2 ds2 (wA.alloc (.cells #[.slice Ar rs2.length cr, .slice Ad ds2.length cd] 25)) (hT.out.ext (yA.trans xB)) (hRr.ext xB) rfl (hSd.ext xB) rfl hb2.2.1 hb2.2.2.1 hb2.2.2.2.1 hb2.2.2.2.2.1 hb2.2.2.2.2.2)
      rw [hb2.1.1, hb2.1.2] at hp2
      have yB := yA.trans xB
      clear orA odA hRr hSd xB xA
      go_wp2_with fail
      refine hp2.out.mono ?_
      rintro e wC ⟨vC, rfl, oC, xC⟩
      obtain ⟨AC, cC, rfl, _, hBC⟩ := OwnB.open oC
      have yC := yB.trans xC
      have ht1 := textB (c := cC) hBC (n := l1.length) rfl
      have ht1b := textB (c := cC) hBC (n := n1) hn1
      have ht2 := textB (c := c1) (hs1.out.ext yC) (n := n1) hn1
      clear hp2 oC hBC xC
      go_wp2
      go_ret
      exact ⟨rfl, yC⟩
  | false =>
    go_wp2_with fail
    refine (hput.out _ y0).mono ?_
    intro e w1 hh
    obtain ⟨rfl, x1⟩ := putNo_of hh
    have y2 := y0.trans x1
    clear hput hgc hgm hgk hpick
    cases G with
    | none =>
      have hgb := Lib.hid (fun (Z : World) (hx : Ext W Z) => (hgb0.out Z hx).mono (fun e w' hh => getNo_of rfl hh))
      go_wp2_with fail
      refine (hgb.out _ y2).mono ?_
      rintro e wA ⟨rfl, xA⟩
      go_wp2
      go_ret
      exact ⟨rfl, (y2.trans xA).alloc _⟩
    | some rd =>
      obtain ⟨rs2, ds2⟩ := rd
      have hb2 := hll rs2 ds2 rfl
      have hgb := Lib.hid (fun (Z : World) (hx : Ext W Z) => (hgb0.out Z hx).mono (fun e w' hh => getYes_of rfl hh))
      go_wp2_with fail
      refine (hgb.out _ y2).mono ?_
      rintro e wA ⟨vr, vd, rfl, orA, odA, xA⟩
      obtain ⟨Ar, cr, rfl, _, hRr⟩ := OwnR.open orA
      obtain ⟨Ad, cd, rfl, hSd⟩ := SpS.own odA
      have yA := y2.trans xA
      have xB : Ext wA (wA.alloc (.cells #[.slice Ar rs2.length cr, .slice Ad ds2.length cd] 25)) := (Ext.refl _).alloc _
      have hp2 := Lib.hid (putBat_any Ar rs2.length cr Ad ds2.length cd rs2 ds2 (wA.alloc (.cells #[.slice Ar rs2.length cr, .slice Ad ds2.length cd] 25)) (hT.out.ext (yA.trans xB)) (hRr.ext xB) rfl (hSd.ext xB) rfl hb2.2.1 hb2.2.2.1 hb2.2.2.2.1 hb2.2.2.2.2.1 hb2.2.2.2.2.2)
      rw [hb2.1.1, hb2.1.2] at hp2
      have yB := yA.trans xB
      clear orA odA hRr hSd xB xA
      go_wp2_with fail
      refine hp2.out.mono ?_
      rintro e wC ⟨vC, rfl, oC, xC⟩
      obtain ⟨AC, cC, rfl, _, hBC⟩ := OwnB.open oC
      have yC := yB.trans xC
      have ht1 := textB (c := cC) hBC (n := l1.length) rfl
      have ht1b := textB (c := cC) hBC (n := n1) hn1
      have ht2 := textB (c := c1) (hs1.out.ext yC) (n := n1) hn1
      clear hp2 oC hBC xC
      go_wp2
      go_ret
      exact ⟨rfl, yC⟩

set_option maxRecDepth 100000 in
set_option maxHeartbeats 4000000 in
theorem batchBack_walk (W : World) (hT : Tabs W) (A : Option Addr) (n c : Nat) (B : Option Addr) (m d : Nat) (rs : List Rn) (ds : List Sp) (hn : rs.length = n) (hc : n ≤ c) (hR : RnS W A rs) (hw : ∀ q ∈ rs, wfR q ∧ q.t.length ≤ maxLen) (hm : ds.length = m) (hd : m ≤ d) (hS : SpS W B ds) (hwd : wfS ds)
    (A1 : Option Addr) (n1 c1 : Nat) (l1 : List UInt8) (hn1 : l1.length = n1) (hc1 : n1 ≤ c1) (hm1 : n1 ≤ maxLen) (hs1 : Bys W A1 l1) (x2 : Int) (hx2 : (Lit.int .i64 x2).wf = true) (x3 : Int) (hx3 : (Lit.int .u8 x3).wf = true) :
    Calls Tryd.prog 4 #[batv A n c B m d, .slice A1 n1 c1, .int .i64 x2, .int .u8 x3] W fun e W' => e = .returned (.bool true) ∧ Ext W W' := by
  have hb3 : 0 ≤ x3 ∧ x3 ≤ 255 := by simpa [Lit.wf, IntKind.min, IntKind.max, IntKind.signed, IntKind.bits] using hx3
  obtain ⟨bb, rfl⟩ : ∃ bb : UInt8, x3 = (bb.toNat : Int) := ⟨UInt8.ofNat x3.toNat, by rw [ofNat_val]; omega⟩
  have hup := Lib.hid (up6_any (W.alloc (.cells #[.slice A n c, .slice B m d] 25)) (hT.ext ((Ext.refl W).alloc _)))
  have hsmc := Lib.hid (fun (Z : World) (hx : Ext W Z) => small_any A n c B m d rs Z (hR.ext hx) hn)
  cases hsm : smallB rs m with
  | false =>
    rw [hsm] at hsmc
    simp only [Bool.false_eq_true, if_false] at hsmc
    go_enter Tryd.func4, Tryd.ntmps4
    go_wp2_with fail
    refine hup.out.mono ?_
    rintro e w0 ⟨rfl, x0⟩
    have a0 := x0.keep (p := ⟨W.heap.size, 0, none⟩) (v := .slice A n c) (by simp [go_sem])
    have a1 := x0.keep (p := ⟨W.heap.size, 1, none⟩) (v := .slice B m d) (by simp [go_sem])
    have y0 : Ext W w0 := ((Ext.refl _).alloc _).trans x0
    clear x0 hup
    go_wp2_with fail
    refine (hsmc.out _ y0).mono ?_
    rintro e w1 ⟨rfl, x1⟩
    go_wp2
    go_ret
    exact ⟨rfl, y0.trans x1⟩
  | true =>
    by_cases hbig : 3000 < n1
    · rw [hsm] at hsmc
      simp only [if_true] at hsmc
      have g1 : decide ((3000 : Int) < (n1 : Int)) = true := by rw [decide_eq_true_eq]; omega
      go_enter Tryd.func4, Tryd.ntmps4
      go_wp2_with fail
      refine hup.out.mono ?_
      rintro e w0 ⟨rfl, x0⟩
      have a0 := x0.keep (p := ⟨W.heap.size, 0, none⟩) (v := .slice A n c) (by simp [go_sem])
      have a1 := x0.keep (p := ⟨W.heap.size, 1, none⟩) (v := .slice B m d) (by simp [go_sem])
      have y0 : Ext W w0 := ((Ext.refl _).alloc _).trans x0
      clear x0 hup
      go_wp2_with fail
      refine (hsmc.out _ y0).mono ?_
      rintro e w1 ⟨rfl, x1⟩
      go_wp2
      go_ret
      exact ⟨rfl, y0.trans x1⟩
    · subst hn
      subst hm
      exact batchBack_small W hT A c B d rs ds hR hw hS hwd A1 n1 c1 l1 hn1 hc1 hs1 x2 (bounds_i64 hx2) bb hsm (by omega)

end Go.Proofs.YthpminlfbjedpaaDoor
