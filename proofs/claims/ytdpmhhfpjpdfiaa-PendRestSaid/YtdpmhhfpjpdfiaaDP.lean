/-
  Several texts of this seat in one file, each in the namespace again; no claim stands here.
-/
import Derived.Test.YtdpmhhfpjpdfiaaDO
namespace Go.Proofs.Ytdpmhhfpjpdfiaa
open Go.ChangeShapes Go.WideShapes Go.ChangeAt Go.RowKit Go.Sort Go.Maps
set_option linter.unusedVariables false
set_option linter.unusedSimpArgs false
set_option linter.unusedSimpArgs false
attribute [local go_sem] World.cell?_alloc_some

theorem fst_length {v : List (Int × Int)} : ∀ {l : List It} {x : It} {r : List It}, fstR v l = some (x, r) → l.length = r.length + 1
  | [], x, r, h => by cases h
  | y :: l, x, r, h => by
    simp only [fstR] at h
    split at h
    · injection h with h
      injection h with h1 h2
      rw [← h2]; rfl
    · cases hf : fstR v l with
      | none => rw [hf] at h; cases h
      | some q =>
        rw [hf] at h
        simp at h
        obtain ⟨h1, h2⟩ := h
        rw [← h2, List.length_cons, List.length_cons, fst_length hf]
def comeN (w : World) (T : Nat) : Nat := match w.cell? ⟨T, 4, none⟩ with
  | some (.slice _ n _) => n
  | _ => 0
theorem TkS.comeN {w0 W : World} {T : Nat} {A : Option Addr} {n cap : Nat} {V0 V : List (Int × Int)} {Xs : List It} {bs : List Bool} {C : List It} {hs : List Int} {g : TkV} (h : TkS w0 W T A n cap V0 V Xs bs C hs g) : comeN W T = C.length := by
  obtain ⟨A4, c4, e, _, _⟩ := h.come.open
  have h4 : W.cell? ⟨T, 4, none⟩ = some g.vo := h.tb.cell rfl
  unfold Proofs.Ytdpmhhfpjpdfiaa.comeN
  rw [h4, e]

def AllRel (w0 : World) (T : Nat) (A : Option Addr) (n cap : Nat) (V0 : List (Int × Int)) (Xs : List It) (F : List It × List It × List (Int × Int)) (wr : World) : Prop :=
  ∃ (V : List (Int × Int)) (bs : List Bool) (C : List It) (hs : List Int) (g : TkV), Hid (TkS w0 wr T A n cap V0 V Xs bs C hs g) ∧ Hid (TInv V Xs bs (plW g.Wt) hs) ∧ Hid (C.length + (ncs bs Xs).length = Xs.length) ∧
    Hid (C ++ (takR (ncs bs Xs).length V (ncs bs Xs)).1 = F.1 ∧ (takR (ncs bs Xs).length V (ncs bs Xs)).2 = F.2)

def AllDone (w0 : World) (T : Nat) (A : Option Addr) (n cap : Nat) (V0 : List (Int × Int)) (Xs : List It) (F : List It × List It × List (Int × Int)) (W : World) : Prop :=
  ∃ (bs : List Bool) (g : TkV), TkS w0 W T A n cap V0 F.2.2 Xs bs F.1 [] g ∧ bs.length = Xs.length ∧ ncs bs Xs = F.2.1 ∧ mayFrom 0 F.2.2 = true

set_option maxRecDepth 100000 in
set_option maxHeartbeats 4000000 in
theorem takeAll_any (w0 W : World) (T : Nat) (A : Option Addr) (n cap : Nat) (V0 : List (Int × Int)) (Xs : List It) (F : List It × List It × List (Int × Int)) (h : AllRel w0 T A n cap V0 Xs F W) (hn : V0.length = n) (hm : mayFrom 0 V0 = true) (hb : n ≤ 1000) (hN : Xs.length ≤ 1000)
    (hap : ∀ (i j : Nat) (x y : It), Xs[i]? = some x → Xs[j]? = some y → iid x = iid y → i = j) (hwf : ∀ y ∈ Xs, wfI y ∧ okW y) :
    Calls Try.prog 18 #[.pointer (some ⟨T, 0, none⟩)] W fun e W' => e = .returned (.tuple #[]) ∧ AllDone w0 T A n cap V0 Xs F W' := by
  replace hap := Lib.hid hap
  replace hwf := Lib.hid hwf
  replace hn := Lib.hid hn
  go_enter Try.func18, Try.ntmps18
  go_wp2_with fail
  go_loopw [] (AllRel w0 T A n cap V0 Xs F) (fun wr => 1000 - comeN wr T)
  case atStart => exact h
  case round =>
    clear h
    obtain ⟨V, bs, C, hs, g, hTk, hI, hC, hF⟩ := hrel
    obtain ⟨A5, c5, e5, _, _⟩ := hTk.out.ready.open
    have t5 : wr.cell? ⟨T, 5, none⟩ = some (.slice A5 hs.length c5) := by rw [← e5]; exact hTk.out.tb.cell rfl
    clear e5
    cases hs with
    | nil =>
      simp only [List.length_nil] at t5
      have hd := hI.out.done
      have hF' := hF.out
      rw [tak_none hd] at hF'
      go_wp2_with fail
      go_end0
      refine ⟨rfl, bs, g, ?_, hI.out.len, ?_, ?_⟩
      · rw [← hF'.2, ← hF'.1]
        show TkS w0 wr T A n cap V0 V Xs bs (C ++ []) [] g
        rw [List.append_nil]
        exact hTk.out
      · rw [← hF'.2]
      · rw [← hF'.2]; exact hI.out.may
    | cons m r =>
      obtain ⟨i, x, rfl, hxi, hbi, hfst, hq, hI'⟩ := hI.out.next (n := r.length) rfl rfl hap.out (fun y hy => (hwf.out y hy).2)
      have htot := hI.out.tot
      have hfl := fst_length hfst
      have hC' := hC.out
      have hpop := Lib.hid (pop_any w0 wr T r.length _ g.vr ((i : Int) :: r) hTk.out.hps rfl (by omega) hI.out.w.heap (i : Int) rfl)
      have ha := fun W : World => asInt_run (i : Int) W
      obtain ⟨q, hq0⟩ : ∃ q, ((i : Int) :: r).length = q := ⟨_, rfl⟩
      have hq1 : (0 : Int) < (q : Int) := by rw [List.length_cons] at hq0; omega
      rw [hq0] at t5 htot
      have hqr : q = r.length + 1 := by rw [← hq0]; rfl
      have htot2 := Lib.hid htot
      replace hqr := Lib.hid hqr
      replace hfst := Lib.hid hfst
      replace hfl := Lib.hid hfl
      replace hI' := Lib.hid hI'
      replace hxi := Lib.hid hxi
      replace hq := Lib.hid hq
      replace hbi := Lib.hid hbi
      clear hq0 htot hC'
      go_wp2_with fail
      refine hpop.out.mono ?_
      rintro e w2 ⟨rfl, v', hh', hown, ht'⟩
      obtain ⟨g2, hT2, eW2, eV2, a2⟩ := hTk.out.pushed hh' (.inl hown) ht'
      clear hh' hown ht' eV2 a2
      have htk := Lib.hid (take_any w0 w2 T A n cap V0 V Xs bs C _ g2 i x hT2 hn.out hm hb hI.out.may hxi.out (hI.out.nxt i x hbi.out hxi.out) hI.out.len hN (by have := hfl.out; have := hC.out; omega) hwf.out (by rw [hq.out, eW2]; have := htot2.out; have := hqr.out; omega) (fun t ht m' hm' => by
        rw [eW2] at ht
        obtain ⟨j, y, e, _, hy⟩ := hI.out.at (m := m') (List.mem_append.2 (.inr (flaP_mem.2 ⟨t, ht, hm'⟩)))
        have := (List.getElem?_eq_some_iff.1 hy).1
        omega))
      rw [eW2] at htk
      clear hT2 eW2
      go_wp2_with fail
      refine htk.out.mono ?_
      rintro e w3 ⟨rfl, g3, hs3, hT3, hp3⟩
      replace hT3 := Lib.hid hT3
      replace hp3 := Lib.hid hp3
      go_wp2_with fail
      go_roundw
      case rel =>
        have e1 : plW g3.Wt = _ := congrArg Prod.fst hp3.out
        have e2 : hs3 = _ := congrArg Prod.snd hp3.out
        refine ⟨_, _, _, hs3, g3, hT3, Lib.hid ?_, Lib.hid ?_, Lib.hid ?_⟩
        · rw [e1, e2]; exact hI'.out
        · have := hC.out
          have := hfl.out
          rw [List.length_append, List.length_singleton]
          omega
        · have h9 := hF.out
          rw [hfl.out, tak_some hfst.out] at h9
          rw [List.append_assoc]
          exact h9
      case measure =>
        rw [hT3.out.comeN, hTk.out.comeN, List.length_append, List.length_singleton]
        have := hC.out
        have := hfl.out
        omega

end Go.Proofs.Ytdpmhhfpjpdfiaa

namespace Go.Proofs.Ytdpmhhfpjpdfiaa
open Go.ChangeShapes Go.WideShapes Go.ChangeAt Go.RowKit Go.Sort Go.Maps
set_option linter.unusedVariables false
set_option linter.unusedSimpArgs false
set_option linter.unusedSimpArgs false
attribute [local go_sem] World.cell?_alloc_some

theorem ncs_snoc : ∀ {a : List Bool} {c : List It} (b : Bool) (x : It), a.length = c.length → ncs (a ++ [b]) (c ++ [x]) = ncs a c ++ (if b then [] else [x])
  | [], [], b, x, _ => by cases b <;> simp [ncs]
  | [], y :: c, b, x, h => by simp at h
  | d :: a, [], b, x, h => by simp at h
  | d :: a, y :: c, b, x, h => by
    have ih := ncs_snoc (a := a) (c := c) b x (by simpa using h)
    rw [List.cons_append, List.cons_append, ncs, ncs, ih]
    cases d <;> simp
theorem ncs_len : ∀ (a : List Bool) (c : List It), (ncs a c).length ≤ c.length
  | [], c => by simp [ncs]
  | d :: a, [] => by simp [ncs]
  | d :: a, y :: c => by
    have := ncs_len a c
    rw [ncs]
    cases d <;> simp <;> omega
def OthRel (w : World) (Xs : List It) (bs : List Bool) (N : Nat) (v vi : Value) (wr : World) : Prop :=
  ∃ j : Nat, j ≤ N ∧ vi = .int .i64 (j : Nat) ∧ Hid (OwnI w wr v (ncs (bs.take j) (Xs.take j))) ∧ Hid (Ext w wr)

set_option maxRecDepth 100000 in
set_option maxHeartbeats 4000000 in
theorem others_any (w0 W : World) (T : Nat) (A : Option Addr) (n cap : Nat) (V0 V : List (Int × Int)) (Xs : List It) (bs : List Bool) (C : List It) (hs : List Int) (g : TkV) (h : TkS w0 W T A n cap V0 V Xs bs C hs g) (hbl : bs.length = Xs.length) (hN : Xs.length ≤ 1000) :
    Calls Try.prog 19 #[.pointer (some ⟨T, 0, none⟩)] W (RetI W (ncs bs Xs)) := by
  obtain ⟨AX, cX, eX, _, hIS⟩ := h.its.open
  have hcm := h.came.2
  have t2 : W.cell? ⟨T, 2, none⟩ = some (.slice AX Xs.length cX) := by rw [← eX]; exact h.tb.cell rfl
  obtain ⟨AC, cC, eC, hcb⟩ : ∃ AC cC, g.vC = .slice AC bs.length cC ∧ ∀ j, j < bs.length → ∃ b, AC = some ⟨b, 0, none⟩ ∧ W.cell? ⟨b, j, none⟩ = some (.bool (bs.getD j false)) := by
    rcases hcm with ⟨h0, h1⟩ | ⟨bC, cC, cur, e, _, hgb, _, _, _, hcur⟩
    · exact ⟨none, 0, by rw [h0, h1], fun j hj => by omega⟩
    · refine ⟨_, cC, e, fun j hj => ⟨bC, rfl, ?_⟩⟩
      have h1 : (cur.toList.take (bs.length * 1))[j]? = some (.bool (bs.getD j false)) := by
        rw [hcur, List.getElem?_map, List.getD_eq_getElem?_getD, List.getElem?_eq_getElem (by omega)]
        rfl
      rw [List.getElem?_take, if_pos (by omega), Array.getElem?_toList] at h1
      simp [World.cell?, hgb, h1]
  have t3 : W.cell? ⟨T, 3, none⟩ = some (.slice AC bs.length cC) := by rw [← eC]; exact h.tb.cell rfl
  obtain ⟨N, hNe⟩ : ∃ N, Xs.length = N := ⟨_, rfl⟩
  rw [hNe] at t2 hbl hN
  rw [hbl] at t3
  replace hNe := Lib.hid hNe
  replace hbl := Lib.hid hbl
  replace hIS := Lib.hid hIS
  replace hcb := Lib.hid hcb
  clear eX eC hcm h
  go_enter Try.func19, Try.ntmps19
  go_wp2_with fail
  go_loopw [3, 11] (OthRel W Xs bs N) (fun _ vi _ => N - (intOf vi).toNat)
  case atStart => exact ⟨0, Nat.zero_le _, rfl, Lib.hid (OwnI.nil _ _), Lib.hid (Ext.refl _)⟩
  case round =>
    obtain ⟨j, hjN, rfl, ho, hx⟩ := hrel
    by_cases hlt : j < N
    · obtain ⟨gx, ox, x, e, hxj, hC⟩ := hIS.out.at (k := j) (by rw [hNe.out]; exact hlt)
      obtain ⟨c0, c1, c2, c3, c4, c5, c6⟩ := hC
      obtain ⟨bC, eb, cb⟩ := hcb.out j (by rw [hbl.out]; exact hlt)
      subst e eb
      have c0 := hx.out.keep c0
      have c1 := hx.out.keep c1
      have c2 := hx.out.keep c2
      have c3 := hx.out.keep c3
      have c4 := hx.out.keep c4
      have c5 := hx.out.keep c5
      have c6 := hx.out.keep c6
      have cb := hx.out.keep cb
      have t2' := hx.out.keep t2
      have t3' := hx.out.keep t3
      obtain ⟨b, hbj⟩ : ∃ b, bs.getD j false = b := ⟨_, rfl⟩
      rw [hbj] at cb
      have hsn := Lib.hid (show ncs (bs.take (j + 1)) (Xs.take (j + 1)) = ncs (bs.take j) (Xs.take j) ++ (if b then [] else [x]) by
        rw [List.take_add_one, List.take_add_one, hxj, ← hbj, List.getD_eq_getElem?_getD, List.getElem?_eq_getElem (by rw [hbl.out]; exact hlt)]
        exact ncs_snoc _ _ (by rw [List.length_take, List.length_take, hbl.out, hNe.out]))
      have hltH := Lib.hid hlt
      have hj0 : (0 : Int) ≤ (j : Int) := by omega
      have hj1 : (j : Int) < (N : Int) := by omega
      have hj2 : (j : Int) < 1000 := by omega
      clear hbj hxj
      cases b with
      | true =>
        have x1 : Ext wr (wr.alloc (.cells #[Vu x.c, Vu x.k, Vu x.lc, Vu x.lk, Vu x.rc, Vu x.rk, .int .i32 x.ch] 32)) := (Ext.refl wr).alloc _
        have hx' := Lib.hid (hx.out.trans x1)
        have ho' := Lib.hid (ho.out.ext x1)
        go_wp2_with fail
        go_roundw
        case rel =>
          refine ⟨j + 1, hltH.out, by go_num, Lib.hid ?_, hx'⟩
          rw [hsn.out, if_pos rfl, List.append_nil]
          exact ho'.out
        case measure => have := hltH.out; simp [intOf]; omega
      | false =>
        have x1 : Ext wr ((wr.alloc (.cells #[Vu x.c, Vu x.k, Vu x.lc, Vu x.lk, Vu x.rc, Vu x.rk, .int .i32 x.ch] 32)).alloc (.cells #[Vu x.c, Vu x.k, Vu x.lc, Vu x.lk, Vu x.rc, Vu x.rk, .int .i32 x.ch] 32)) := ((Ext.refl wr).alloc _).alloc _
        have hx' := Lib.hid (hx.out.trans x1)
        have ho' := Lib.hid (ho.out.ext x1)
        have hz : Hid (ItS ((wr.alloc (.cells #[Vu x.c, Vu x.k, Vu x.lc, Vu x.lk, Vu x.rc, Vu x.rk, .int .i32 x.ch] 32)).alloc (.cells #[Vu x.c, Vu x.k, Vu x.lc, Vu x.lk, Vu x.rc, Vu x.rk, .int .i32 x.ch] 32)) (some ⟨wr.heap.size + 1, 0, none⟩) [x]) := Lib.hid (by
          have e : (wr.alloc (.cells #[Vu x.c, Vu x.k, Vu x.lc, Vu x.lk, Vu x.rc, Vu x.rk, .int .i32 x.ch] 32)).heap.size = wr.heap.size + 1 := by simp
          rw [← e]
          exact Row.new (wr.alloc (.cells #[Vu x.c, Vu x.k, Vu x.lc, Vu x.lk, Vu x.rc, Vu x.rk, .int .i32 x.ch] 32)) #[Vu x.c, Vu x.k, Vu x.lc, Vu x.lk, Vu x.rc, Vu x.rk, .int .i32 x.ch] 32)
        have hle := Lib.hid (show (ncs (bs.take j) (Xs.take j)).length + [x].length ≤ 100000 by
          have h1 := ncs_len (bs.take j) (Xs.take j)
          rw [List.length_take] at h1
          have := hNe.out
          rw [List.length_singleton]
          omega)
        go_wp2_with (at_builtin; refine wpList_append_I (w0 := W) rfl (.tmp 24) (.tmp 26) rfl _ (ncs (bs.take j) (Xs.take j)) rfl ho'.out hx'.out _ 1 1 [x] rfl rfl hz.out hle.out ?_; intro v9 w9 o9 x9 g9 b9; replace o9 := Lib.hid o9; replace x9 := Lib.hid x9; clear g9 b9)
        go_roundw
        case rel =>
          refine ⟨j + 1, hltH.out, by go_num, Lib.hid ?_, x9⟩
          rw [hsn.out]
          exact o9.out
        case measure => have := hltH.out; simp [intOf]; omega
    · have hje : j = N := by omega
      have hfin := Lib.hid (show ncs (bs.take j) (Xs.take j) = ncs bs Xs by rw [List.take_of_length_le (by rw [hbl.out]; omega), List.take_of_length_le (by rw [hNe.out]; omega)])
      go_wp2_with fail
      go_ret
      exact ⟨_, rfl, by rw [← hfin.out]; exact ho.out, hx.out⟩

end Go.Proofs.Ytdpmhhfpjpdfiaa
