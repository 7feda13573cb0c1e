/-
  WireBack's walk; no claim stands here.
-/
import Derived.Test.YtfdbcekdbffibaaDoorWUp
import Derived.Test.YtfdbcekdbffibaaDoorWirTxt
namespace Go.Proofs.YtfdbcekdbffibaaDoor
open Go.ChangeShapes Go.WideShapes Go.ChangeAt Go.RowKit Go.Sort
set_option linter.unusedVariables false
attribute [local go_sem] World.cell?_alloc_some

/-- what the last region's slots hold -/
def backTab (w : World) (y m : Nat) (B : Option Addr) (nb cb : Nat) : SoftTab := [(159, fun x W => x = .bool true),
  (160, fun x W => x = .bool true),
  (161, fun x W => x = .nilIface),
  (162, fun x W => x = .bool false),
  (163, fun x W => x = .bool false),
  (164, fun x W => x = Vi m),
  (165, fun x W => x = .slice B nb cb),
  (166, fun x W => x = Vi nb),
  (167, fun x W => x = .bool true),
  (168, fun x W => x = .bool true),
  (169, fun x W => x = Vu y),
  (170, fun x W => OwnB w W x (numB y)),
  (171, fun x W => x = .string ⟨(numB y).toArray⟩),
  (172, fun x W => x = .slice B nb cb),
  (173, fun x W => x = Vi m),
  (174, fun x W => x = .slice B nb cb),
  (175, fun x W => x = Vi nb),
  (176, fun x W => x = Vi m),
  (177, fun x W => x = Vi m),
  (178, fun x W => x = .slice B m cb),
  (179, fun x W => x = .string ⟨(numB y).toArray⟩),
  (180, fun x W => x = .bool true),
  (181, fun x W => x = .bool true),
  (182, fun x W => x = .bool true),
  (183, fun x W => x = .bool true),
  (10, fun x W => x = .bool true)]
theorem backTab_mono (w : World) (y m : Nat) (B : Option Addr) (nb cb : Nat) : SoftMono (backTab w y m B nb cb) := by
  intro p hp u W W' h hx
  simp only [backTab, List.mem_cons, List.not_mem_nil, or_false] at hp
  rcases hp with rfl | rfl | rfl | rfl | rfl | rfl | rfl | rfl | rfl | rfl | rfl | rfl | rfl | rfl | rfl | rfl | rfl | rfl | rfl | rfl | rfl | rfl | rfl | rfl | rfl | rfl
  all_goals first | exact h | exact OwnB.ext h hx

theorem pick_any (n : Int) (k : Nat) (w : World) (hk : 0 < k) (hk2 : k ≤ 3000) : Calls Tryd.prog 16 #[Vi n, Vi k] w fun e w' => (∃ r : Nat, r < k ∧ e = .returned (Vi r)) ∧ w = w' := by
  have h1 : Int.tmod n k < k := Int.tmod_lt_of_pos n (by omega)
  have h2 : -(k : Int) < Int.tmod n k := Int.lt_tmod_of_pos n (by omega)
  have h3 : ((k : Int) == 0) = false := by rw [beq_eq_false_iff_ne]; omega
  by_cases hneg : Int.tmod n k < 0
  · go_enter Tryd.func16, Tryd.ntmps16
    go_wp2
    go_ret
    exact ⟨⟨(Int.tmod n k + k).toNat, by omega, ret_i64 (by omega)⟩, rfl⟩
  · go_enter Tryd.func16, Tryd.ntmps16
    go_wp2
    go_ret
    exact ⟨⟨(Int.tmod n k).toNat, by omega, ret_i64 (by omega)⟩, rfl⟩

theorem OwnB.empty {w0 W : World} (hx : Ext w0 W) : OwnB w0 (W.alloc (.cells #[] 5)) (.slice (some ⟨W.heap.size, 0, none⟩) 0 0) [] := OwnB.new hx [] (by simp) #[] rfl

/-- ahead, bytes of the call's own and behind, one behind the other: what Get and GetText are asked of -/
def Mid (w W : World) (v : Value) (n : Nat) (l : List UInt8) : Prop := ∃ A c, v = .slice A n c ∧ n ≤ c ∧ l.length = n ∧ Bys W A l ∧ Ext w W

set_option maxRecDepth 100000 in
set_option maxHeartbeats 4000000 in
theorem wback_let (v : Nat) (s : ByteArray) (hs : s.size ≤ 1048576) (A B : Option Addr) (na ca nb cb : Nat) (cut : Int) (w : World) (hna : na ≤ maxLen) (hnb : nb ≤ maxLen) (hlet : 300 < s.size ∨ 300 < na ∨ 300 < nb ∨ Lib.validD s.data.toList = false) :
    Calls Tryd.prog 4 #[Vu v, .string s, .slice A na ca, .slice B nb cb, Vi cut] w fun e w' => e = .returned (.bool true) ∧ Ext w w' := by
  unfold maxLen at hna hnb
  have hch := fun W => Lib.hid (chars_any s (by omega) W)
  generalize hval : Lib.validD s.data.toList = V at hlet
  replace hval := Lib.hid hval
  go_enter Tryd.func4, Tryd.ntmps4
  go_wp2_with fail
  refine (up4_any _).mono ?_
  rintro e w1 ⟨rfl, x1⟩
  have k1 := hch w1
  clear hch
  go_wp2_with fail
  refine k1.out.mono ?_
  rintro e w2 ⟨hh, x2⟩
  replace x1 := x1.trans x2
  clear k1 x2
  have hh2 : ∃ u, e = .returned (.tuple #[u, .bool V]) := by
    rcases hh with ⟨hv, rfl⟩ | ⟨hv, u, rfl, _⟩
    · rw [hval.out] at hv; subst hv; exact ⟨_, rfl⟩
    · rw [hval.out] at hv; subst hv; exact ⟨u, rfl⟩
  clear hh
  obtain ⟨u, rfl⟩ := hh2
  clear hval
  by_cases h1 : 300 < s.size
  · go_wp2
    go_ret
    exact ⟨rfl, x1⟩
  by_cases h2 : 300 < na
  · go_wp2
    go_ret
    exact ⟨rfl, x1⟩
  by_cases h3 : 300 < nb
  · go_wp2
    go_ret
    exact ⟨rfl, x1⟩
  · obtain rfl : V = false := by
      rcases hlet with h | h | h | h
      · omega
      · omega
      · omega
      · exact h
    go_wp2
    go_ret
    exact ⟨rfl, x1⟩

set_option maxRecDepth 100000 in
set_option maxHeartbeats 8000000 in
theorem wback_small (v : Nat) (hv : v < 4294967296) (s : ByteArray) (hs : s.size ≤ 300) (A B : Option Addr) (na ca nb cb : Nat) (al bl : List UInt8) (cut : Int) (w : World) (hA : Bys w A al) (hla : al.length = na) (hB : Bys w B bl) (hlb : bl.length = nb) (hcb : nb ≤ cb) (hna : na ≤ 300) (hnb : nb ≤ 300)
    (hval : Lib.validD s.data.toList = true) (hT : Tabs w) :
    Calls Tryd.prog 4 #[Vu v, .string s, .slice A na ca, .slice B nb cb, Vi cut] w fun e w' => e = .returned (.bool true) ∧ Ext w w' := by
  obtain ⟨sl, hsl⟩ : ∃ sl, s.data.toList = sl := ⟨_, rfl⟩
  have hssz : sl.length = s.size := by rw [← hsl]; exact (Lib.size_eq s).symm
  have hstr : (⟨sl.toArray⟩ : ByteArray) = s := by rw [← hsl]
  have hch := fun W => Lib.hid (chars_any s (by omega) W)
  have hpt := fun W => Lib.hid (putText_any s (by omega) W)
  rw [hsl] at hval
  simp only [hsl] at hch hpt
  replace hval := Lib.hid hval
  replace hA := Lib.hid hA
  replace hB := Lib.hid hB
  replace hla := Lib.hid hla
  replace hlb := Lib.hid hlb
  replace hT := Lib.hid hT
  replace hstr := Lib.hid hstr
  have n1 : (numB v).length ≤ 5 ∧ 0 < (numB v).length := by rw [numB_len]; have := lenB_le v; omega
  have n2 : (putT sl).length ≤ 305 ∧ 0 < (putT sl).length := by rw [putT_len, hssz]; have := lenB_le s.size; omega
  have hsl4 : sl.length < 4294967296 := by omega
  replace hssz := Lib.hid hssz
  clear hsl
  go_enter Tryd.func4, Tryd.ntmps4
  go_wp2_with fail
  refine (up4_any _).mono ?_
  rintro e w1 ⟨rfl, x1⟩
  have k1 := hch w1
  clear hch
  go_wp2_with fail
  refine k1.out.mono ?_
  rintro e w2 ⟨hh, x2⟩
  replace x1 := x1.trans x2
  clear k1 x2
  have hh2 : ∃ u, e = .returned (.tuple #[u, .bool true]) := by
    rcases hh with ⟨hv', rfl⟩ | ⟨hv', u, rfl, _⟩
    · rw [hval.out] at hv'; cases hv'
    · exact ⟨u, rfl⟩
  clear hh
  obtain ⟨u, rfl⟩ := hh2
  go_wp2_with fail
  refine (put_any v hv w2).mono ?_
  rintro e w3 ⟨vb, rfl, ob, xb⟩
  have y1 := x1.trans xb
  have k2 := hpt w3
  clear hpt
  go_wp2_with fail
  refine k2.out.mono ?_
  rintro e w4 ⟨vc, rfl, oc, xc⟩
  have y2 := y1.trans xc
  replace ob := (ob.ext xc).down x1
  replace oc := oc.down y1
  clear k2 x1 xb xc y1
  obtain ⟨Ab, cb1, rfl, hcb1, bb⟩ := ob.open
  obtain ⟨Ac, cc1, rfl, hcc1, bc⟩ := oc.open
  clear ob oc
  obtain ⟨LB, hLB⟩ : ∃ LB, numB v = LB := ⟨_, rfl⟩
  obtain ⟨LC, hLC⟩ : ∃ LC, putT sl = LC := ⟨_, rfl⟩
  rw [hLB] at bb n1 hcb1 ⊢
  rw [hLC] at bc n2 hcc1 ⊢
  obtain ⟨lb1, hlb1⟩ : ∃ k, LB.length = k := ⟨_, rfl⟩
  obtain ⟨lc1, hlc1⟩ : ∃ k, LC.length = k := ⟨_, rfl⟩
  rw [hlb1] at n1 hcb1 ⊢
  rw [hlc1] at n2 hcc1 ⊢
  replace hLB := Lib.hid hLB
  replace hLC := Lib.hid hLC
  replace hlb1 := Lib.hid hlb1
  replace hlc1 := Lib.hid hlc1
  replace bb := Lib.hid bb
  replace bc := Lib.hid bc
  have z1 : ((lb1 : Int) == 0) = false := by rw [beq_eq_false_iff_ne]; omega
  have z2 : ((lc1 : Int) == 0) = false := by rw [beq_eq_false_iff_ne]; omega
  have hA4 := Lib.hid (hA.out.ext y2)
  go_wp2_with (first
    | (at_builtin; refine wpList_append_B (w0 := w4) rfl (.tmp 68) (.tmp 69) rfl _ [] rfl (OwnB.empty (Ext.refl w4)) ((Ext.refl w4).alloc _) A na ca al rfl hla.out (hA4.out.ext ((Ext.refl _).alloc _)) (by rw [hla.out]; simp; omega) ?_; intro v5 w5 o5 x5 g5)
    | (at_builtin; refine wpList_append_B (w0 := w4) rfl (.tmp 70) (.tmp 71) rfl v5 ([] ++ al) rfl o5 x5 Ab lb1 cb1 LB rfl hlb1.out (bb.out.ext x5) (by rw [List.nil_append, hla.out, hlb1.out]; omega) ?_; intro v6 w6 o6 x6 g6)
    | (at_builtin; refine wpList_append_B (w0 := w4) rfl (.tmp 72) (.tmp 73) rfl v6 ([] ++ al ++ LB) rfl o6 x6 B nb cb bl rfl hlb.out ((hB.out.ext y2).ext x6) (by rw [List.length_append, List.nil_append, hla.out, hlb1.out, hlb.out]; omega) ?_; intro v7 w7 o7 x7 g7))
  clear g5 g6 g7 o5 o6 x5 x6
  obtain ⟨A7, c7, rfl, hc7, b7⟩ := o7.open
  have l7 : ([] ++ al ++ LB ++ bl).length ≤ 700 := by rw [List.nil_append, List.length_append, List.length_append, hla.out, hlb1.out, hlb.out]; omega
  have q7 := Lib.hid (get_any A7 _ c7 ([] ++ al ++ LB ++ bl) na w7 b7 rfl hc7 (by omega))
  have r7 : getB ([] ++ al ++ LB ++ bl) na = some (v, lb1) := by rw [← hlb1.out, ← hLB.out, ← hla.out, List.nil_append]; exact getB_put al bl hv
  rw [r7] at q7
  simp only [getRet] at q7
  clear l7 r7 o7 b7 hc7
  refine q7.out.mono ?_
  rintro e w8 ⟨rfl, x8⟩
  replace x7 := x7.trans x8
  clear q7 x8
  have y8 := y2.trans x7
  have hA8 := Lib.hid (hA.out.ext y8)
  have hB8 := Lib.hid (hB.out.ext y8)
  have bb8 := Lib.hid (bb.out.ext x7)
  have bc8 := Lib.hid (bc.out.ext x7)
  have hT8 := Lib.hid (hT.out.ext y8)
  clear hA4 bb bc x7 y2
  go_wp2_with (first
    | (at_builtin; refine wpList_append_B (w0 := w8) rfl (.tmp 82) (.tmp 83) rfl _ [] rfl (OwnB.empty (Ext.refl w8)) ((Ext.refl w8).alloc _) A na ca al rfl hla.out (hA8.out.ext ((Ext.refl _).alloc _)) (by rw [hla.out]; simp; omega) ?_; intro v5 w5 o5 x5 g5)
    | (at_builtin; refine wpList_append_B (w0 := w8) rfl (.tmp 84) (.tmp 85) rfl v5 ([] ++ al) rfl o5 x5 Ac lc1 cc1 LC rfl hlc1.out (bc8.out.ext x5) (by rw [List.nil_append, hla.out, hlc1.out]; omega) ?_; intro v6 w6 o6 x6 g6)
    | (at_builtin; refine wpList_append_B (w0 := w8) rfl (.tmp 86) (.tmp 87) rfl v6 ([] ++ al ++ LC) rfl o6 x6 B nb cb bl rfl hlb.out (hB8.out.ext x6) (by rw [List.length_append, List.nil_append, hla.out, hlc1.out, hlb.out]; omega) ?_; intro v10 w10 o10 x10 g10))
  clear g5 g6 g10 o5 o6 x5 x6
  obtain ⟨A10, c10, rfl, hc10, b10⟩ := o10.open
  have l10 : ([] ++ al ++ LC ++ bl).length ≤ 1000 := by rw [List.nil_append, List.length_append, List.length_append, hla.out, hlc1.out, hlb.out]; omega
  have q10 := Lib.hid (getText_any A10 _ c10 ([] ++ al ++ LC ++ bl) na w10 b10 rfl hc10 (by omega) (hT8.out.ext x10))
  have r10 : getT ([] ++ al ++ LC ++ bl) na = some (sl, lc1) := by rw [← hlc1.out, ← hLC.out, ← hla.out, List.nil_append]; exact getT_put al bl hsl4 hval.out
  rw [r10] at q10
  simp only [getTRet, Vt] at q10
  rw [hstr.out] at q10
  clear l10 r10 o10 b10 hc10
  refine q10.out.mono ?_
  rintro e w11 ⟨rfl, x11⟩
  replace x10 := x10.trans x11
  clear q10 x11
  have y11 := y8.trans x10
  have hB11 := Lib.hid (hB8.out.ext x10)
  have bb11 := Lib.hid (bb8.out.ext x10)
  have bc11 := Lib.hid (bc8.out.ext x10)
  have hT11 := Lib.hid (hT8.out.ext x10)
  clear hA8 hB8 bb8 bc8 hT8 x10 y8
  go_wp2_with fail
  refine (pick_any cut lb1 w11 (by omega) (by omega)).mono ?_
  rintro e w12 ⟨⟨r1, hr1, rfl⟩, rfl⟩
  have hup1 := uptoB Ab lb1 cb1 r1 (by omega) r1 rfl
  have q12 := Lib.hid (get_any Ab r1 cb1 (LB.take r1) 0 w11 (bb11.out.take r1) (by rw [List.length_take, hlb1.out]; omega) (by omega) (by omega))
  have r12 : getB (LB.take r1) 0 = none := by rw [← hLB.out]; exact getB_cut hv (by rw [hLB.out, hlb1.out]; exact hr1)
  rw [r12] at q12
  simp only [getRet] at q12
  clear r12
  go_wp2_with fail
  refine q12.out.mono ?_
  rintro e w13 ⟨rfl, x13⟩
  have y13 := y11.trans x13
  have hB13 := Lib.hid (hB11.out.ext x13)
  have bc13 := Lib.hid (bc11.out.ext x13)
  have hT13 := Lib.hid (hT11.out.ext x13)
  clear q12 hB11 bb11 bc11 hT11 x13 y11
  go_wp2_with fail
  refine (pick_any cut lc1 w13 (by omega) (by omega)).mono ?_
  rintro e w14 ⟨⟨r2, hr2, rfl⟩, rfl⟩
  have hup2 := uptoB Ac lc1 cc1 r2 (by omega) r2 rfl
  have q14 := Lib.hid (getText_any Ac r2 cc1 (LC.take r2) 0 w13 (bc13.out.take r2) (by rw [List.length_take, hlc1.out]; omega) (by omega) (by omega) hT13.out)
  have r14 : getT (LC.take r2) 0 = none := by rw [← hLC.out]; exact getT_cut hsl4 (by rw [hLC.out, hlc1.out]; exact hr2)
  rw [r14] at q14
  simp only [getTRet] at q14
  clear r14
  go_wp2_with fail
  refine q14.out.mono ?_
  rintro e w15 ⟨rfl, x15⟩
  have y15 := y13.trans x15
  have hB15 := Lib.hid (hB13.out.ext x15)
  clear q14 hB13 bc13 hT13 x15 y13
  have q16 := Lib.hid (get_any B nb cb bl 0 w15 hB15.out hlb.out hcb (by omega))
  cases hgb : getB bl 0 with
  | none =>
    rw [hgb] at q16
    simp only [getRet] at q16
    clear hgb
    go_wp2_with fail
    refine q16.out.mono ?_
    rintro e w9 ⟨rfl, x16⟩
    have x1 := y15.trans x16
    clear q16 x16 y15
    go_wp2_with fail
    go_quiet (fail)
    go_wp2
    go_ret
    exact ⟨rfl, x1.drewN _⟩
  | some q =>
    obtain ⟨y, m⟩ := q
    rw [hgb] at q16
    simp only [getRet] at q16
    have hbk := getB_back (p := 0) hgb
    rw [List.drop_zero, Nat.zero_add, hlb.out] at hbk
    obtain ⟨hnum, hm, -, -, hy⟩ := hbk
    clear hgb
    go_wp2_with fail
    refine q16.out.mono ?_
    rintro e w9 ⟨rfl, x16⟩
    have x1 := y15.trans x16
    have hB9 := hB15.out.ext x16
    have hlt : (bl.take m).length = m := by rw [List.length_take, hlb.out]; omega
    have hcv9 : ∀ W, Ext w9 W → (convert 23 9 (.slice B m cb)).run Tryd.prog W = .ok (.string ⟨(numB y).toArray⟩) W := fun W hx => by rw [hnum]; exact textB ((hB9.ext hx).take m) hlt
    have hup9 := uptoB B nb cb m (by omega) m rfl
    have hmin9 : min (m : Int) (nb : Int) = m := by omega
    have hmax9 : max (m : Int) 0 = m := by omega
    have hle9 : (m : Int) ≤ nb := by omega
    clear q16 x16 y15 hnum hB15 hB9 hlt
    go_wp2_with fail
    refine wp_soft (backTab w9 y m B nb cb) (by kernel_rfl) rfl (by show List.Nodup [159, 160, 161, 162, 163, 164, 165, 166, 167, 168, 169, 170, 171, 172, 173, 174, 175, 176, 177, 178, 179, 180, 181, 182, 183, 10]; decide) (by show ∀ d ∈ [159, 160, 161, 162, 163, 164, 165, 166, 167, 168, 169, 170, 171, 172, 173, 174, 175, 176, 177, 178, 179, 180, 181, 182, 183, 10], d < 184; decide) (by kernel_rfl) (backTab_mono w9 y m B nb cb) ?_ ⟨?_, ?_, ?_, ?_, ?_, ?_, ?_, ?_, ?_, ?_, ?_, ?_, ?_, ?_, ?_, ?_, ?_, ?_, ?_, ?_, ?_, ?_, ?_, ?_, ?_, ?_, trivial⟩
    · rename_i K hK
      intro a' W hS
      have h0 : a'.tmps[10]?.getD undef = .bool true := by rw [← Array.getD_eq_getD_getElem?]; exact hS.told 25 10 _ rfl rfl
      refine hK _ _ (wp_ret (bodyPost_ret (v := .bool true) ?_ hS.defers ⟨rfl, x1.trans hS.ext⟩))
      simp [results, Tryd.results4, h0]
    · refine soft_val 159 _ (by kernel_rfl) rfl rfl ?_
      intro a W hx hout hdep
      have ev11 : a.tmps[11]?.getD undef = .bool true := by rw [← Array.getD_eq_getD_getElem?]; exact hout 11 (by show 11 ∉ [159, 160, 161, 162, 163, 164, 165, 166, 167, 168, 169, 170, 171, 172, 173, 174, 175, 176, 177, 178, 179, 180, 181, 182, 183, 10]; decide)
      refine ⟨rfl, .bool true, W, ?_, rfl, Ext.refl _⟩
      simp [ev11, execOp, go_sem]
    · refine soft_val 160 _ (by kernel_rfl) rfl rfl ?_
      intro a W hx hout hdep
      have ev159 : a.tmps[159]?.getD undef = .bool true := by rw [← Array.getD_eq_getD_getElem?]; exact (hdep ⟨0, .data⟩ (by simp) rfl 159 _ rfl).1
      refine ⟨rfl, .bool true, W, ?_, rfl, Ext.refl _⟩
      simp [ev159, execOp, go_sem]
    · refine soft_val 161 _ (by kernel_rfl) rfl rfl ?_
      intro a W hx hout hdep
      have ev30 : a.tmps[30]?.getD undef = .nilIface := by rw [← Array.getD_eq_getD_getElem?]; exact hout 30 (by show 30 ∉ [159, 160, 161, 162, 163, 164, 165, 166, 167, 168, 169, 170, 171, 172, 173, 174, 175, 176, 177, 178, 179, 180, 181, 182, 183, 10]; decide)
      refine ⟨soft_wanted rfl (by kernel_rfl) (hdep ⟨1, .guard⟩ (by simp) rfl 160 _ rfl), .nilIface, W, ?_, rfl, Ext.refl _⟩
      simp [ev30, execOp, go_sem]
    · refine soft_val 162 _ (by kernel_rfl) rfl rfl ?_
      intro a W hx hout hdep
      have ev161 : a.tmps[161]?.getD undef = .nilIface := by rw [← Array.getD_eq_getD_getElem?]; exact (hdep ⟨2, .data⟩ (by simp) rfl 161 _ rfl).1
      refine ⟨soft_wanted rfl (by kernel_rfl) (hdep ⟨1, .guard⟩ (by simp) rfl 160 _ rfl), .bool false, W, ?_, rfl, Ext.refl _⟩
      simp [ev161, execOp, go_sem]
    · refine soft_val 163 _ (by kernel_rfl) rfl rfl ?_
      intro a W hx hout hdep
      have ev162 : a.tmps[162]?.getD undef = .bool false := by rw [← Array.getD_eq_getD_getElem?]; exact (hdep ⟨3, .data⟩ (by simp) rfl 162 _ rfl).1
      refine ⟨soft_wanted rfl (by kernel_rfl) (hdep ⟨1, .guard⟩ (by simp) rfl 160 _ rfl), .bool false, W, ?_, rfl, Ext.refl _⟩
      simp [ev162, execOp, go_sem]
    · refine soft_val 164 _ (by kernel_rfl) rfl rfl ?_
      intro a W hx hout hdep
      have ev29 : a.tmps[29]?.getD undef = Vi m := by rw [← Array.getD_eq_getD_getElem?]; exact hout 29 (by show 29 ∉ [159, 160, 161, 162, 163, 164, 165, 166, 167, 168, 169, 170, 171, 172, 173, 174, 175, 176, 177, 178, 179, 180, 181, 182, 183, 10]; decide)
      refine ⟨soft_wanted rfl (by kernel_rfl) (hdep ⟨4, .guard⟩ (by simp) rfl 163 _ rfl), Vi m, W, ?_, rfl, Ext.refl _⟩
      simp [ev29, execOp, go_sem]
    · refine soft_val 165 _ (by kernel_rfl) rfl rfl ?_
      intro a W hx hout hdep
      have ev3 : a.tmps[3]?.getD undef = .slice B nb cb := by rw [← Array.getD_eq_getD_getElem?]; exact hout 3 (by show 3 ∉ [159, 160, 161, 162, 163, 164, 165, 166, 167, 168, 169, 170, 171, 172, 173, 174, 175, 176, 177, 178, 179, 180, 181, 182, 183, 10]; decide)
      refine ⟨soft_wanted rfl (by kernel_rfl) (hdep ⟨4, .guard⟩ (by simp) rfl 163 _ rfl), .slice B nb cb, W, ?_, rfl, Ext.refl _⟩
      simp [ev3, execOp, go_sem]
    · refine soft_val 166 _ (by kernel_rfl) rfl rfl ?_
      intro a W hx hout hdep
      have ev165 : a.tmps[165]?.getD undef = .slice B nb cb := by rw [← Array.getD_eq_getD_getElem?]; exact (hdep ⟨6, .data⟩ (by simp) rfl 165 _ rfl).1
      refine ⟨soft_wanted rfl (by kernel_rfl) (hdep ⟨4, .guard⟩ (by simp) rfl 163 _ rfl), Vi nb, W, ?_, rfl, Ext.refl _⟩
      simp [ev165, execOp, go_sem]
    · refine soft_val 167 _ (by kernel_rfl) rfl rfl ?_
      intro a W hx hout hdep
      have ev164 : a.tmps[164]?.getD undef = Vi m := by rw [← Array.getD_eq_getD_getElem?]; exact (hdep ⟨5, .data⟩ (by simp) rfl 164 _ rfl).1
      have ev166 : a.tmps[166]?.getD undef = Vi nb := by rw [← Array.getD_eq_getD_getElem?]; exact (hdep ⟨7, .data⟩ (by simp) rfl 166 _ rfl).1
      refine ⟨soft_wanted rfl (by kernel_rfl) (hdep ⟨4, .guard⟩ (by simp) rfl 163 _ rfl), .bool true, W, ?_, rfl, Ext.refl _⟩
      simp [ev164, ev166, hle9, execOp, go_sem]
    · refine soft_val 168 _ (by kernel_rfl) rfl rfl ?_
      intro a W hx hout hdep
      have ev167 : a.tmps[167]?.getD undef = .bool true := by rw [← Array.getD_eq_getD_getElem?]; exact (hdep ⟨8, .data⟩ (by simp) rfl 167 _ rfl).1
      refine ⟨soft_wanted rfl (by kernel_rfl) (hdep ⟨4, .guard⟩ (by simp) rfl 163 _ rfl), .bool true, W, ?_, rfl, Ext.refl _⟩
      simp [ev167, execOp, go_sem]
    · refine soft_val 169 _ (by kernel_rfl) rfl rfl ?_
      intro a W hx hout hdep
      have ev28 : a.tmps[28]?.getD undef = Vu y := by rw [← Array.getD_eq_getD_getElem?]; exact hout 28 (by show 28 ∉ [159, 160, 161, 162, 163, 164, 165, 166, 167, 168, 169, 170, 171, 172, 173, 174, 175, 176, 177, 178, 179, 180, 181, 182, 183, 10]; decide)
      refine ⟨soft_wanted rfl (by kernel_rfl) (hdep ⟨9, .guard⟩ (by simp) rfl 168 _ rfl), Vu y, W, ?_, rfl, Ext.refl _⟩
      simp [ev28, execOp, go_sem]
    · refine soft_call 170 _ (by kernel_rfl) rfl rfl ?_
      intro a W hx hout hdep
      have ev169 : a.tmps[169]?.getD undef = Vu y := by rw [← Array.getD_eq_getD_getElem?]; exact (hdep ⟨10, .data⟩ (by simp) rfl 169 _ rfl).1
      refine ⟨soft_wanted rfl (by kernel_rfl) (hdep ⟨9, .guard⟩ (by simp) rfl 168 _ rfl), 11, #[Vu y], ?_, ?_⟩
      · simp [ev169, execOp, go_sem]
      · refine (put_any y hy W).mono ?_
        rintro e W' ⟨v, rfl, ho, hE⟩
        exact ⟨v, rfl, ho.down hx, hE⟩
    · refine soft_val 171 _ (by kernel_rfl) rfl rfl ?_
      intro a W hx hout hdep
      have ow170 : OwnB w9 W (a.eval (.tmp 170)) (numB y) := (hdep ⟨11, .data⟩ (by simp) rfl 170 _ rfl).1
      have hcv : (convert 23 9 (a.eval (.tmp 170))).run Tryd.prog W = .ok (.string ⟨(numB y).toArray⟩) W := own_text ow170 (Ext.refl W)
      refine ⟨soft_wanted rfl (by kernel_rfl) (hdep ⟨9, .guard⟩ (by simp) rfl 168 _ rfl), .string ⟨(numB y).toArray⟩, W, ?_, rfl, Ext.refl _⟩
      simp [hcv, execOp]
    · refine soft_val 172 _ (by kernel_rfl) rfl rfl ?_
      intro a W hx hout hdep
      have ev3 : a.tmps[3]?.getD undef = .slice B nb cb := by rw [← Array.getD_eq_getD_getElem?]; exact hout 3 (by show 3 ∉ [159, 160, 161, 162, 163, 164, 165, 166, 167, 168, 169, 170, 171, 172, 173, 174, 175, 176, 177, 178, 179, 180, 181, 182, 183, 10]; decide)
      refine ⟨soft_wanted rfl (by kernel_rfl) (hdep ⟨9, .guard⟩ (by simp) rfl 168 _ rfl), .slice B nb cb, W, ?_, rfl, Ext.refl _⟩
      simp [ev3, execOp, go_sem]
    · refine soft_val 173 _ (by kernel_rfl) rfl rfl ?_
      intro a W hx hout hdep
      have ev29 : a.tmps[29]?.getD undef = Vi m := by rw [← Array.getD_eq_getD_getElem?]; exact hout 29 (by show 29 ∉ [159, 160, 161, 162, 163, 164, 165, 166, 167, 168, 169, 170, 171, 172, 173, 174, 175, 176, 177, 178, 179, 180, 181, 182, 183, 10]; decide)
      refine ⟨soft_wanted rfl (by kernel_rfl) (hdep ⟨9, .guard⟩ (by simp) rfl 168 _ rfl), Vi m, W, ?_, rfl, Ext.refl _⟩
      simp [ev29, execOp, go_sem]
    · refine soft_val 174 _ (by kernel_rfl) rfl rfl ?_
      intro a W hx hout hdep
      have ev3 : a.tmps[3]?.getD undef = .slice B nb cb := by rw [← Array.getD_eq_getD_getElem?]; exact hout 3 (by show 3 ∉ [159, 160, 161, 162, 163, 164, 165, 166, 167, 168, 169, 170, 171, 172, 173, 174, 175, 176, 177, 178, 179, 180, 181, 182, 183, 10]; decide)
      refine ⟨soft_wanted rfl (by kernel_rfl) (hdep ⟨9, .guard⟩ (by simp) rfl 168 _ rfl), .slice B nb cb, W, ?_, rfl, Ext.refl _⟩
      simp [ev3, execOp, go_sem]
    · refine soft_val 175 _ (by kernel_rfl) rfl rfl ?_
      intro a W hx hout hdep
      have ev174 : a.tmps[174]?.getD undef = .slice B nb cb := by rw [← Array.getD_eq_getD_getElem?]; exact (hdep ⟨15, .data⟩ (by simp) rfl 174 _ rfl).1
      refine ⟨soft_wanted rfl (by kernel_rfl) (hdep ⟨9, .guard⟩ (by simp) rfl 168 _ rfl), Vi nb, W, ?_, rfl, Ext.refl _⟩
      simp [ev174, execOp, go_sem]
    · refine soft_val 176 _ (by kernel_rfl) rfl rfl ?_
      intro a W hx hout hdep
      have ev173 : a.tmps[173]?.getD undef = Vi m := by rw [← Array.getD_eq_getD_getElem?]; exact (hdep ⟨14, .data⟩ (by simp) rfl 173 _ rfl).1
      have ev175 : a.tmps[175]?.getD undef = Vi nb := by rw [← Array.getD_eq_getD_getElem?]; exact (hdep ⟨16, .data⟩ (by simp) rfl 175 _ rfl).1
      refine ⟨soft_wanted rfl (by kernel_rfl) (hdep ⟨9, .guard⟩ (by simp) rfl 168 _ rfl), Vi m, W, ?_, rfl, Ext.refl _⟩
      simp [ev173, ev175, hmin9, execOp, go_sem]
    · refine soft_val 177 _ (by kernel_rfl) rfl rfl ?_
      intro a W hx hout hdep
      have ev176 : a.tmps[176]?.getD undef = Vi m := by rw [← Array.getD_eq_getD_getElem?]; exact (hdep ⟨17, .data⟩ (by simp) rfl 176 _ rfl).1
      refine ⟨soft_wanted rfl (by kernel_rfl) (hdep ⟨9, .guard⟩ (by simp) rfl 168 _ rfl), Vi m, W, ?_, rfl, Ext.refl _⟩
      simp [ev176, hmax9, execOp, go_sem]
    · refine soft_val 178 _ (by kernel_rfl) rfl rfl ?_
      intro a W hx hout hdep
      have ev172 : a.tmps[172]?.getD undef = .slice B nb cb := by rw [← Array.getD_eq_getD_getElem?]; exact (hdep ⟨13, .data⟩ (by simp) rfl 172 _ rfl).1
      have ev177 : a.tmps[177]?.getD undef = Vi m := by rw [← Array.getD_eq_getD_getElem?]; exact (hdep ⟨18, .data⟩ (by simp) rfl 177 _ rfl).1
      refine ⟨soft_wanted rfl (by kernel_rfl) (hdep ⟨9, .guard⟩ (by simp) rfl 168 _ rfl), .slice B m cb, W, ?_, rfl, Ext.refl _⟩
      simp [ev172, ev177, hup9, execOp, go_sem]
    · refine soft_val 179 _ (by kernel_rfl) rfl rfl ?_
      intro a W hx hout hdep
      have ev178 : a.tmps[178]?.getD undef = .slice B m cb := by rw [← Array.getD_eq_getD_getElem?]; exact (hdep ⟨19, .data⟩ (by simp) rfl 178 _ rfl).1
      refine ⟨soft_wanted rfl (by kernel_rfl) (hdep ⟨9, .guard⟩ (by simp) rfl 168 _ rfl), .string ⟨(numB y).toArray⟩, W, ?_, rfl, Ext.refl _⟩
      have hcv := hcv9 W hx
      simp [ev178, hcv, execOp, go_sem]
    · refine soft_val 180 _ (by kernel_rfl) rfl rfl ?_
      intro a W hx hout hdep
      have ev171 : a.tmps[171]?.getD undef = .string ⟨(numB y).toArray⟩ := by rw [← Array.getD_eq_getD_getElem?]; exact (hdep ⟨12, .data⟩ (by simp) rfl 171 _ rfl).1
      have ev179 : a.tmps[179]?.getD undef = .string ⟨(numB y).toArray⟩ := by rw [← Array.getD_eq_getD_getElem?]; exact (hdep ⟨20, .data⟩ (by simp) rfl 179 _ rfl).1
      refine ⟨soft_wanted rfl (by kernel_rfl) (hdep ⟨9, .guard⟩ (by simp) rfl 168 _ rfl), .bool true, W, ?_, rfl, Ext.refl _⟩
      simp [ev171, ev179, execOp, go_sem]
    · refine soft_val 181 _ (by kernel_rfl) rfl rfl ?_
      intro a W hx hout hdep
      have ev168 : a.tmps[168]?.getD undef = .bool true := by rw [← Array.getD_eq_getD_getElem?]; exact (hdep ⟨9, .data⟩ (by simp) rfl 168 _ rfl).1
      have ev180 : a.tmps[180]?.getD undef = .bool true := by rw [← Array.getD_eq_getD_getElem?]; exact (hdep ⟨21, .data⟩ (by simp) rfl 180 _ rfl).1
      refine ⟨soft_wanted rfl (by kernel_rfl) (hdep ⟨4, .guard⟩ (by simp) rfl 163 _ rfl), .bool true, W, ?_, rfl, Ext.refl _⟩
      simp [ev168, ev180, execOp, go_sem]
    · refine soft_val 182 _ (by kernel_rfl) rfl rfl ?_
      intro a W hx hout hdep
      have ev163 : a.tmps[163]?.getD undef = .bool false := by rw [← Array.getD_eq_getD_getElem?]; exact (hdep ⟨4, .data⟩ (by simp) rfl 163 _ rfl).1
      have ev181 : a.tmps[181]?.getD undef = .bool true := by rw [← Array.getD_eq_getD_getElem?]; exact (hdep ⟨22, .data⟩ (by simp) rfl 181 _ rfl).1
      refine ⟨soft_wanted rfl (by kernel_rfl) (hdep ⟨1, .guard⟩ (by simp) rfl 160 _ rfl), .bool true, W, ?_, rfl, Ext.refl _⟩
      simp [ev163, ev181, execOp, go_sem]
    · refine soft_val 183 _ (by kernel_rfl) rfl rfl ?_
      intro a W hx hout hdep
      have ev160 : a.tmps[160]?.getD undef = .bool true := by rw [← Array.getD_eq_getD_getElem?]; exact (hdep ⟨1, .data⟩ (by simp) rfl 160 _ rfl).1
      have ev182 : a.tmps[182]?.getD undef = .bool true := by rw [← Array.getD_eq_getD_getElem?]; exact (hdep ⟨23, .data⟩ (by simp) rfl 182 _ rfl).1
      refine ⟨rfl, .bool true, W, ?_, rfl, Ext.refl _⟩
      simp [ev160, ev182, execOp, go_sem]
    · refine soft_val 10 _ (by kernel_rfl) rfl rfl ?_
      intro a W hx hout hdep
      have ev183 : a.tmps[183]?.getD undef = .bool true := by rw [← Array.getD_eq_getD_getElem?]; exact (hdep ⟨24, .data⟩ (by simp) rfl 183 _ rfl).1
      refine ⟨rfl, .bool true, W, ?_, rfl, Ext.refl _⟩
      simp [ev183, execOp, go_sem]

end Go.Proofs.YtfdbcekdbffibaaDoor
