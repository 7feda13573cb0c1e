/-
  Several texts of this seat in one file, each in the namespace again; no claim stands here.
-/
import Derived.Room.AppendUpon
import Derived.Deep.DeepCutAuto
import Derived.Deep.SlicePairs
import Derived.Lay
import Derived.ChangeMaps5
import Derived.Test.YtdpmhhfpjpdfiaaDU
import Derived.Test.YtdpmhhfpjpdfiaaDN
import Derived.Test.YtdpmhhfpjpdfiaaDM
import Derived.Test.YtdpmhhfpjpdfiaaDL
namespace Go.Proofs.Ytdpmhhfpjpdfiaa
open Go.ChangeShapes Go.WideShapes Go.ChangeAt Go.RowKit Go.Sort
set_option linter.unusedVariables false
set_option linter.unusedSimpArgs false
attribute [local go_sem] World.cell?_alloc_some

def RelB (n : Nat) (a b : World) : Prop := a.heap.size ≤ b.heap.size ∧ (n ≤ a.heap.size → Below n a b)
theorem RelB.trans {n : Nat} {a b c : World} (h : RelB n a b) (k : RelB n b c) : RelB n a c := ⟨Nat.le_trans h.1 k.1, fun hn => Below.trans (h.2 hn) (k.2 (Nat.le_trans hn h.1))⟩
theorem RelB.of {n : Nat} {a b : World} (h : Ext a b) : RelB n a b := ⟨h.size, fun hn => Below.mono h hn⟩
theorem RelB.ext {a b : World} (h : RelB a.heap.size a b) : Ext a b := h.2 (Nat.le_refl _)
def TkT (l1 l2 : List It) (l3 : List (Int × Int)) (v : Value) (W : World) : Prop := ∃ (Aa : Option Addr) (ca : Nat) (Ab : Option Addr) (cb : Nat) (A : Option Addr) (c : Nat), v = .tuple #[.slice Aa l1.length ca, .slice Ab l2.length cb, .slice A l3.length c] ∧ ItS W Aa l1 ∧ ItS W Ab l2 ∧ Vec W A l3
theorem TkT.ext {l1 l2 : List It} {l3 : List (Int × Int)} {v : Value} {W W' : World} (h : TkT l1 l2 l3 v W) (hx : Ext W W') : TkT l1 l2 l3 v W' := by
  obtain ⟨Aa, ca, Ab, cb, A, c, h1, h2, h3, h4⟩ := h
  exact ⟨Aa, ca, Ab, cb, A, c, h1, h2.ext hx, h3.ext hx, h4.ext hx⟩
theorem RetTq.tk {w w' : World} {l1 l2 : List It} {l3 : List (Int × Int)} {e : Ending} (h : RetTq w (l1, l2, l3) e w') : ∃ v, e = .returned v ∧ TkT l1 l2 l3 v w' ∧ Ext w w' := by
  obtain ⟨Aa, ca, Ab, cb, A, c, h1, _, _, _, h2, h3, h4, h5⟩ := h
  exact ⟨_, h1, ⟨Aa, ca, Ab, cb, A, c, rfl, h2, h3, h4⟩, h5⟩
theorem app_IB (w0 w : World) (ty : TypeId) (v : Value) (l : List It) (hown : OwnI w0 w v l) (hx : Ext w0 w) (A : Option Addr) (m c : Nat) (r : List It) (hm : r.length = m) (hr : ItS w A r) (hb : l.length + m ≤ 100000) :
    ∃ v' w', (Builtin.append_ #[23, 23] ty #[v, .slice A m c]).run Try.prog w = .ok v' w' ∧ OwnI w0 w' v' (l ++ r) ∧ RelB w0.heap.size w w' := by
  obtain ⟨i, hi, hz0, hz1, hz2⟩ := info_parts infoI
  subst hm
  obtain ⟨v', w', hrun, h2, h3, h4⟩ := run_append_rowB (P := Try.prog) w w0.heap.size 23 ty 32 i _ 7 28 Try.underlying23 hi hz0 hz1 hz2 rfl (by omega) v l.length _ hown A r.length c _ (flat_len encI_len r) hr (flat_one_cell encI_one r)
    (by unfold maxLen; omega) (by omega) hx.size
  refine ⟨v', w', hrun, ?_, World.grownBy.size h3, fun hn => ⟨h3.os, h3.tape, h3.output, World.grownBy.size h3, fun k hk => World.grownBy.block h3 k (Nat.lt_of_lt_of_le hk hn) fun e => ?_⟩⟩
  · unfold OwnI OwnG
    rw [flat_append, List.length_append]
    exact h2
  · have := (OwnI.lt hown k e.symm).1
    omega

def pdqTab (Au : Option Addr) (nu cu : Nat) (Ad : Option Addr) (nd cd : Nat) (Am : Option Addr) (k cm r qd ne l2 l3 : Nat) (D M Z1 T2 : List It) (T3 : List (Int × Int)) (s0 : World) : SoftTab := [(118, fun z9 W => z9 = .slice Au nu cu),
  (119, fun z9 W => ∃ q, z9 = .slice (some ⟨q, 0, none⟩) 0 0 ∧ s0.heap.size ≤ q ∧ W.heap[q]? = some (.cells #[] 32 (0, 0))),
  (120, fun z9 W => z9 = .slice Ad nd cd),
  (121, fun z9 W => OwnI s0 W z9 D),
  (122, fun z9 W => z9 = .slice Am k cm),
  (123, fun z9 W => z9 = Vi (r : Int)),
  (124, fun z9 W => z9 = .slice (cutA Am cm r 7) (k - r) (cm - r)),
  (125, fun z9 W => ∃ A c, z9 = .slice A qd c ∧ qd ≤ c ∧ ItS W A (D ++ M.drop r)),
  (126, fun z9 W => TkT Z1 T2 T3 z9 W),
  (117, fun z9 W => TkT Z1 T2 T3 z9 W),
  (127, fun z9 W => ∃ A c, z9 = .slice A ne c),
  (128, fun z9 W => ∃ A c, z9 = .slice A l2 c ∧ ItS W A T2),
  (129, fun z9 W => ∃ A c, z9 = .slice A l3 c ∧ Vec W A T3),
  (25, fun z9 W => ∃ A c, z9 = .slice A ne c),
  (26, fun z9 W => ∃ A c, z9 = .slice A l2 c ∧ ItS W A T2)]
def pdqB (k : Nat) : Bool := k == 1 || k == 3
def pdqA (k : Nat) : Bool := decide (8 ≤ k)
theorem pdqTab_mono (Au : Option Addr) (nu cu : Nat) (Ad : Option Addr) (nd cd : Nat) (Am : Option Addr) (k cm r qd ne l2 l3 : Nat) (D M Z1 T2 : List It) (T3 : List (Int × Int)) (s0 : World) : SoftMonoY (RelB s0.heap.size) 7 pdqB pdqA (pdqTab Au nu cu Ad nd cd Am k cm r qd ne l2 l3 D M Z1 T2 T3 s0) := by
  constructor
  · intro j d R hk v W W' h hx
    match j, hk with
    | 0, hk => cases hk; exact h
    | 1, hk => cases hk; exact (by obtain ⟨q, h1, h2, h3⟩ := h; exact ⟨q, h1, h2, by rw [RowKit.Below.block hx q (Array.getElem?_eq_some_iff.1 h3).1]; exact h3⟩)
    | 2, hk => cases hk; exact h
    | 3, hk => cases hk; exact (OwnI.ext h hx)
    | 4, hk => cases hk; exact h
    | 5, hk => cases hk; exact h
    | 6, hk => cases hk; exact h
    | 7, hk => cases hk; exact (by obtain ⟨A, c, h1, h2, h3⟩ := h; exact ⟨A, c, h1, h2, h3.ext hx⟩)
    | 8, hk => cases hk; exact (TkT.ext h hx)
    | 9, hk => cases hk; exact (TkT.ext h hx)
    | 10, hk => cases hk; exact h
    | 11, hk => cases hk; exact (by obtain ⟨A, c, h1, h2⟩ := h; exact ⟨A, c, h1, h2.ext hx⟩)
    | 12, hk => cases hk; exact (by obtain ⟨A, c, h1, h2⟩ := h; exact ⟨A, c, h1, h2.ext hx⟩)
    | 13, hk => cases hk; exact h
    | 14, hk => cases hk; exact (by obtain ⟨A, c, h1, h2⟩ := h; exact ⟨A, c, h1, h2.ext hx⟩)
    | j + 15, hk => simp [pdqTab] at hk
  · intro j d R hk hne hb ha v W W' h hx
    match j, hk with
    | 0, hk => cases hk; exact h
    | 1, hk => exact absurd hb (by decide)
    | 2, hk => cases hk; exact h
    | 3, hk => exact absurd hb (by decide)
    | 4, hk => cases hk; exact h
    | 5, hk => cases hk; exact h
    | 6, hk => cases hk; exact h
    | 7, hk => exact absurd rfl hne
    | 8, hk => exact absurd ha (by decide)
    | 9, hk => exact absurd ha (by decide)
    | 10, hk => exact absurd ha (by decide)
    | 11, hk => exact absurd ha (by decide)
    | 12, hk => exact absurd ha (by decide)
    | 13, hk => exact absurd ha (by decide)
    | 14, hk => exact absurd ha (by decide)
    | j + 15, hk => simp [pdqTab] at hk

set_option maxRecDepth 100000 in
set_option maxHeartbeats 16000000 in
theorem pendRest_walk (K : PdK) (A B : Option Addr) (n ca m cb : Nat) (v : List (Int × Int)) (L : List It) (p : Int) (w : World) (hv : Vec w A v) (hu : ItS w B L) (hn : v.length = n) (hm : L.length = m) (hca : n ≤ ca) (hcb : m ≤ cb) (hwv : wfC v) (hwl : ∀ x ∈ L, wfI x) (hn1 : n ≤ maxLen) :
    Calls Try.prog 4 #[.slice A n ca, .slice B m cb, Vi p] w fun e w' => e = .returned (.bool true) ∧ Ext w w' := by
  unfold maxLen at hn1
  obtain ⟨t, ht⟩ : ∃ t, mayFrom 0 v = t := ⟨_, rfl⟩
  have hmay := Lib.hid (fun (W : World) (hW : Ext w W) => ht ▸ mayRef_big A n ca v W (hv.ext hW) hn hwv (by omega))
  replace hv := Lib.hid hv
  replace hu := Lib.hid hu
  replace hn := Lib.hid hn
  replace hm := Lib.hid hm
  replace hwv := Lib.hid hwv
  replace hwl := Lib.hid hwl
  replace ht := Lib.hid ht
  go_enter Try.func4, Try.ntmps4
  go_wp2_with fail
  refine (up10_any K _).mono ?_
  rintro e w1 ⟨rfl, x1⟩
  go_wp2_with fail
  refine (hmay.out _ x1).mono ?_
  rintro e w2 ⟨rfl, x2⟩
  replace x2 := x1.trans x2
  clear x1 hmay
  by_cases h20 : 20 < n
  · go_wp2
    go_ret
    exact ⟨rfl, x2⟩
  by_cases h60 : 60 < m
  · go_wp2
    go_ret
    exact ⟨rfl, x2⟩
  cases t with
  | false =>
    go_wp2
    go_ret
    exact ⟨rfl, x2⟩
  | true =>
    go_wp2_with fail
    refine (waiting_any A B n ca m cb v L _ (hv.out.ext x2) hn.out (hu.out.ext x2) hm.out (by omega) (by omega)).mono ?_
    rintro e w3 ⟨mv, rfl, o3, x3⟩
    obtain ⟨Am, cm, rfl, hcm, hIM⟩ := o3.open
    replace x3 := Lib.hid (x2.trans x3)
    have hap := Lib.hid (wt_apart v L)
    have hwk := Lib.hid (fun x hx => (⟨hwl.out x (wt_mem x hx).1, wt_ok hwl.out x hx⟩ : wfI x ∧ okW x ∧ nextOf v x.c ≤ x.k))
    have hlen := wt_len v L
    rw [hm.out] at hlen
    clear x2 o3
    generalize wtI v L = M at *
    have hls := Lib.hid (take_lens hap.out ht.out hwv.out fun x hx => (hwk.out x hx).2.1)
    have hls1 := Lib.hid (fun r : Nat => take_lens (l := M.take r) (List.Pairwise.sublist (List.take_sublist _ _) hap.out) ht.out hwv.out fun x hx => (hwk.out x (List.mem_of_mem_take hx)).2.1)
    have hT2 := Lib.hid (fun r : Nat => take_two (k := r) hap.out ht.out hwv.out (fun x hx => (hwk.out x hx).2.1) fun x hx => (hwk.out x hx).2.2)
    have hrev := Lib.hid (take_same (v := v) (apart_perm (List.reverse_perm M).symm hap.out) (List.reverse_perm M))
    obtain ⟨T, hT⟩ : ∃ T, takeI v M = T := ⟨_, rfl⟩
    rw [hT] at hls hT2 hrev
    obtain ⟨k, hk⟩ : ∃ k, M.length = k := ⟨_, rfl⟩
    rw [hk] at hlen hcm hls ⊢
    rw [hn.out] at hls hls1
    replace hk := Lib.hid hk
    replace hIM := Lib.hid hIM
    replace hv := Lib.hid (hv.out.ext x3.out)
    clear hu hwl
    have t1 := K.take A Am n ca k cm v M _ hv.out hn.out hca ht.out hwv.out hIM.out hk.out hcm (by omega) hap.out hwk.out
    rw [hT] at t1
    replace t1 := Lib.hid t1
    clear hT
    go_wp2_with fail
    refine t1.out.mono ?_
    rintro e w4 ⟨Aa, c1, Ab, c2, Aw, c3, rfl, h1, h2, h3, hIa, hIb, hVw, x4⟩
    clear t1
    obtain ⟨T1, T2, T3⟩ := T
    dsimp only at h1 h2 h3 hIa hIb hVw hls hT2 ⊢
    obtain ⟨l1, hl1⟩ : ∃ k, T1.length = k := ⟨_, rfl⟩
    obtain ⟨l2, hl2⟩ : ∃ k, T2.length = k := ⟨_, rfl⟩
    obtain ⟨l3, hl3⟩ : ∃ k, T3.length = k := ⟨_, rfl⟩
    obtain ⟨q1, q2, q3⟩ := hls.out
    rw [hl1, hl2] at q1
    rw [hl3] at q2
    rw [hl1] at h1 hT2 ⊢
    rw [hl2] at h2 ⊢
    rw [hl3] at h3 ⊢
    replace q3 := Lib.hid q3
    replace hl1 := Lib.hid hl1
    replace hl2 := Lib.hid hl2
    replace hl3 := Lib.hid hl3
    replace hIa := Lib.hid hIa
    replace hIb := Lib.hid hIb
    replace hVw := Lib.hid hVw
    replace hv := Lib.hid (hv.out.ext x4)
    replace hIM := Lib.hid (hIM.out.ext x4)
    have hX4 := Lib.hid (x3.out.trans x4)
    have hne : ((l1 : Int) + (l2 : Int) != (k : Int)) = false := by simp; omega
    clear x3 x4 hls
    go_wp2_with fail
    go_loopw [13] (fun s W => ∃ i : Nat, i ≤ l2 ∧ s = Vi i ∧ Ext w4 W) (fun s _ => l2 - (intOf s).toNat)
    case atStart => exact ⟨0, Nat.zero_le _, rfl, Ext.refl _⟩
    case round =>
      obtain ⟨i, hi, rfl, hx⟩ := hrel
      by_cases hlt : i < l2
      · obtain ⟨b, o, x, hA, hp, d⟩ := (hIb.out.ext hx).at (k := i) (by rw [hl2.out]; exact hlt)
        obtain ⟨d0, d1, d2, d3, d4, d5, d6⟩ := d
        have hi1 : (0 : Int) ≤ (i : Int) := by omega
        have hi2 : (i : Int) < (l2 : Int) := by omega
        have hxm := List.mem_of_getElem? hp
        obtain ⟨hx1, hx2, _⟩ := hwk.out x (q3.out.2.2.1 x hxm)
        have hA' := K.ready Aw l3 c3 T3 x wr (hVw.out.ext hx) hl3.out h3 q3.out.1 q3.out.2.1 (by omega) hx1 hx2
        rw [q3.out.2.2.2 x hxm] at hA'
        replace hA' := Lib.hid hA'
        subst hA
        clear hp hx1 hx2 hxm
        go_wp2_with fail
        refine hA'.out.mono ?_
        rintro e w5 ⟨rfl, x5⟩
        go_wp2
        go_roundw
        case rel => exact ⟨i + 1, by omega, by go_num, hx.trans x5⟩
        case measure => simp [intOf]; omega
      · have hv5 := Lib.hid (hv.out.ext hx)
        have hIM5 := Lib.hid (hIM.out.ext hx)
        have hIa5 := Lib.hid (hIa.out.ext hx)
        have hIb5 := Lib.hid (hIb.out.ext hx)
        have hVw5 := Lib.hid (hVw.out.ext hx)
        have hX5 := Lib.hid (hX4.out.trans hx)
        have hsub : IntKind.i64.wrap ((k : Int) - 1) = (k : Int) - 1 := IntWalk.i64_in _ (by omega)
        clear hv hIM hIa hIb hVw hX4 hx
        generalize wr = w5 at *
        go_wp2_with fail
        go_loopw [14, 15] (fun tv s W => ∃ (j : Nat) (z : Int), j ≤ k ∧ z + 1 = (j : Int) ∧ s = Vi z ∧ Hid (OwnI w5 W tv (M.drop j).reverse) ∧ Ext w5 W) (fun _ s _ => (intOf s + 1).toNat)
        case atStart => exact ⟨k, (k : Int) - 1, Nat.le_refl _, by omega, rfl, Lib.hid (by rw [List.drop_of_length_le (by rw [hk.out]; omega)]; exact OwnI.nil _ _), Ext.refl _⟩
        case round =>
          obtain ⟨j, z, hj, hz, rfl, ho, hx⟩ := hrel
          cases j with
          | succ i =>
            obtain rfl : z = (i : Int) := by omega
            obtain ⟨b, o, x, hA, hp, d⟩ := (hIM5.out.ext hx).at (k := i) (by rw [hk.out]; omega)
            obtain ⟨d0, d1, d2, d3, d4, d5, d6⟩ := d
            have hi1 : (0 : Int) ≤ (i : Int) := by omega
            have hi2 : (i : Int) < (k : Int) := by omega
            have hsub2 : IntKind.i64.wrap ((i : Int) - 1) = (i : Int) - 1 := IntWalk.i64_in _ (by omega)
            have hstep := Lib.hid (show (M.drop i).reverse = (M.drop (i + 1)).reverse ++ [x] by
              obtain ⟨hk', e⟩ := List.getElem?_eq_some_iff.1 hp
              rw [List.drop_eq_getElem_cons hk', e, List.reverse_cons])
            have hlr := Lib.hid (show (M.drop (i + 1)).reverse.length ≤ 60 by rw [List.length_reverse, List.length_drop, hk.out]; omega)
            subst hA
            clear hp hz
            go_wp2_with (first
              | (at_builtin
                 refine wpList_append_I (w0 := w5) rfl (.tmp 83) (.tmp 88) rfl _ ((M.drop (i + 1)).reverse) rfl (ho.out.ext ((Ext.refl wr).alloc _)) (hx.alloc _) _ 1 1 [x] rfl rfl (ItS.new wr x) (by have := hlr.out; simp only [List.length_cons, List.length_nil]; omega) ?_
                 intro v6 w6 o6 x6 g6 e6)
              | fail)
            go_roundw
            case rel => exact ⟨i, (i : Int) - 1, by omega, by omega, rfl, Lib.hid (by rw [hstep.out]; exact o6), x6⟩
            case measure => simp [intOf] <;> omega
          | zero =>
            obtain rfl : z = -1 := by omega
            rw [List.drop_zero] at ho
            obtain ⟨At, ct, rfl, hct, hIt⟩ := ho.out.open
            rw [List.length_reverse, hk.out] at hct ⊢
            have t2 := K.take A At n ca k ct v M.reverse _ (hv5.out.ext hx) hn.out hca ht.out hwv.out hIt (by rw [List.length_reverse, hk.out]) hct (by omega) (apart_perm (List.reverse_perm M).symm hap.out) fun x hx => hwk.out x (List.mem_reverse.1 hx)
            rw [hrev.out] at t2
            replace t2 := Lib.hid t2
            have hX6 := Lib.hid (hX5.out.trans hx)
            replace hx := Lib.hid hx
            clear hIt ho hct hrev
            go_wp2_with fail
            refine t2.out.mono ?_
            rintro e w7 ⟨Ba, e1, Bb, e2, Bw, e3, rfl, g1, g2, g3, hJa, hJb, hJw, x7⟩
            dsimp only at hJa hJb hJw ⊢
            rw [hl1.out, hl2.out, hl3.out]
            clear t2 g1 g2 g3 hJw
            replace x7 := hx.out.trans x7
            clear hx hX6
            go_wp2_with fail
            refine (sameI_any Ba Aa l1 e1 c1 T1 _ hJa (hIa5.out.ext x7) hl1.out (by omega)).mono ?_
            rintro e w8 ⟨rfl, x8⟩
            replace hJb := hJb.ext x8
            replace x8 := x7.trans x8
            clear x7 hJa
            go_wp2_with fail
            refine (sameI_any Bb Ab l2 e2 c2 T2 _ hJb (hIb5.out.ext x8) hl2.out (by omega)).mono ?_
            rintro e w9 ⟨rfl, x9⟩
            replace x9 := Lib.hid (x8.trans x9)
            clear x8 hJb
            have hpk := Lib.hid (fun W : World => (show ((k + 1 : Nat) : Int) = (k : Int) + 1 by omega) ▸ pick8_any p (k + 1) W (by omega) (by omega))
            go_wp2_with fail
            refine (hpk.out _).mono ?_
            rintro e w10 ⟨⟨r, hr, rfl⟩, rfl⟩
            clear hpk
            have hup := fun W : World => uptoI Am k cm r (by omega) (r : Int) rfl W
            have hfr := fun W : World => fromI Am k cm r (by omega) (r : Int) rfl W
            have hlr := Lib.hid (show (M.take r).length = r by rw [List.length_take, hk.out]; omega)
            have t3 := Lib.hid (K.take A Am n ca r cm v (M.take r) _ (hv5.out.ext x9.out) hn.out hca ht.out hwv.out ((hIM5.out.ext x9.out).take r) hlr.out (by omega) (by omega) (List.Pairwise.sublist (List.take_sublist _ _) hap.out) fun x hx => hwk.out x (List.mem_of_mem_take hx))
            replace hT2 := Lib.hid (hT2.out r)
            replace hls1 := Lib.hid (hls1.out r)
            rw [hlr.out] at hls1
            go_wp2_with fail
            refine t3.out.mono ?_
            rintro e s0 ⟨Ac, c5, Ad, cd, Au, cu, rfl, hcc, hcd, hcu, hIc, hID, hVu, x10⟩
            clear t3
            generalize takeI v (M.take r) = Y at *
            obtain ⟨C, D, U⟩ := Y
            dsimp only at hcc hcd hcu hIc hID hVu hT2 hls1 ⊢
            obtain ⟨nc, hnc⟩ : ∃ k, C.length = k := ⟨_, rfl⟩
            obtain ⟨nd, hnd⟩ : ∃ k, D.length = k := ⟨_, rfl⟩
            obtain ⟨nu, hnu⟩ : ∃ k, U.length = k := ⟨_, rfl⟩
            obtain ⟨z1, z2, z3, z4, _⟩ := hls1.out
            rw [hnc, hnd] at z1
            rw [hnu] at z2
            rw [hnc] at hcc hT2 ⊢
            rw [hnd] at hcd ⊢
            rw [hnu] at hcu ⊢
            obtain ⟨y1, y2, y3, y4, y5⟩ := hT2.out
            have hdl : (D ++ M.drop r).length = nd + (k - r) := by rw [List.length_append, hnd, List.length_drop, hk.out]
            have hgo := Lib.hid (fun (A7 : Option Addr) (c7 : Nat) (W : World) (hW : Ext s0 W) (hI : ItS W A7 (D ++ M.drop r)) (hc : nd + (k - r) ≤ c7) => K.take Au A7 nu cu (nd + (k - r)) c7 U (D ++ M.drop r) W (hVu.ext hW) hnu hcu z3 z4 hI hdl hc (by omega) y1 fun x hx => ⟨(hwk.out x (y2 x hx).1).1, (hwk.out x (y2 x hx).1).2.1, (y2 x hx).2⟩)
            replace y3 := Lib.hid y3
            replace y4 := Lib.hid y4
            replace y5 := Lib.hid y5
            replace hdl := Lib.hid hdl
            replace hnd := Lib.hid hnd
            replace hID := Lib.hid hID
            replace x10 := x9.out.trans x10
            replace hIM5 := Lib.hid (hIM5.out.ext x10)
            replace hIb5 := Lib.hid (hIb5.out.ext x10)
            replace hVw5 := Lib.hid (hVw5.out.ext x10)
            have hX10 := Lib.hid (hX5.out.trans x10)
            clear hT2 hls1 y1 y2 z3 z4 hv5 hIa5 hX5 hIc hcc hVu x9 x10 hap hwk hwv q3 hne hsub hup hnu hlr hnc
            generalize takeI U (D ++ M.drop r) = Z at *
            obtain ⟨Z1, Z2, Z3⟩ := Z
            have e4 := y4.out.symm
            have e5 := y5.out.symm
            have e3 := y3.out
            clear y3 y4 y5
            dsimp only at e3 e4 e5
            subst e4
            subst e5
            obtain ⟨ne, hne1⟩ : ∃ k, Z1.length = k := ⟨_, rfl⟩
            rw [hne1] at e3
            replace hne1 := Lib.hid hne1
            have hsum : ((nc : Int) + (ne : Int) == (l1 : Int)) = true := by simp; omega
            have hl1' := Lib.hid (show (M.drop r).length = k - r by rw [List.length_drop, hk.out])
            have hcutM := Lib.hid (hIM5.out.cut (n := k) (cap := cm) (k := r) hk.out hcm (by omega))
            obtain ⟨qd, hqd⟩ : ∃ q, nd + (k - r) = q := ⟨_, rfl⟩
            rw [hqd] at hdl hgo
            clear hqd
            go_wp2_with fail
            refine wp_soft_frameY (RelB s0.heap.size) 7 pdqB pdqA 15 (pdqTab Au nu cu Ad nd cd Am k cm r qd ne l2 l3 D M Z1 T2 T3 s0) (by kernel_rfl) (by kernel_rfl) (fun _ _ _ => RelB.trans) (fun _ _ => RelB.of) (by decide) rfl (by show List.Nodup [118, 119, 120, 121, 122, 123, 124, 125, 126, 117, 127, 128, 129, 25, 26]; decide) (by show ∀ d ∈ [118, 119, 120, 121, 122, 123, 124, 125, 126, 117, 127, 128, 129, 25, 26], d < 159; decide) (fun j hj ha => match j, hj, ha with | 0, _, ha => absurd ha (by decide) | 1, _, ha => absurd ha (by decide) | 2, _, ha => absurd ha (by decide) | 3, _, ha => absurd ha (by decide) | 4, _, ha => absurd ha (by decide) | 5, _, ha => absurd ha (by decide) | 6, _, ha => absurd ha (by decide) | 7, _, ha => absurd ha (by decide) | 8, _, _ => ⟨7, by kernel_rfl, .inl rfl⟩ | 9, _, _ => ⟨8, by kernel_rfl, .inr ⟨by decide, rfl⟩⟩ | 10, _, _ => ⟨9, by kernel_rfl, .inr ⟨by decide, rfl⟩⟩ | 11, _, _ => ⟨9, by kernel_rfl, .inr ⟨by decide, rfl⟩⟩ | 12, _, _ => ⟨9, by kernel_rfl, .inr ⟨by decide, rfl⟩⟩ | 13, _, _ => ⟨10, by kernel_rfl, .inr ⟨by decide, rfl⟩⟩ | 14, _, _ => ⟨11, by kernel_rfl, .inr ⟨by decide, rfl⟩⟩ | j + 15, hj, _ => absurd hj (by omega)) (pdqTab_mono Au nu cu Ad nd cd Am k cm r qd ne l2 l3 D M Z1 T2 T3 s0) ?_ ⟨?_, ?_, ?_, ?_, ?_, ?_, ?_, ?_, ?_, ?_, ?_, ?_, ?_, ?_, ?_, trivial⟩
            · intro W f hT hR
              replace hR := Lib.hid (RelB.ext hR)
              have t0 := hT 0 118 _ rfl rfl
              have t2 := hT 2 120 _ rfl rfl
              have t4 := hT 4 122 _ rfl rfl
              have t5 := hT 5 123 _ rfl rfl
              have t6 := hT 6 124 _ rfl rfl
              have t7 := hT 7 125 _ rfl rfl
              have t8 := hT 8 126 _ rfl rfl
              have t9 := hT 9 117 _ rfl rfl
              have t10 := hT 10 127 _ rfl rfl
              have t11 := hT 11 128 _ rfl rfl
              have t12 := hT 12 129 _ rfl rfl
              have t13 := hT 13 25 _ rfl rfl
              have t14 := hT 14 26 _ rfl rfl
              simp only [pdqTab, List.map_cons, List.map_nil, putAll, List.setIfInBounds_toArray, List.set_cons_zero, List.set_cons_succ, List.drop_succ_cons, List.drop_zero]
              try simp only at t0 t2 t4 t5 t6
              obtain ⟨A7, c7, t7, _⟩ := t7
              obtain ⟨A10, c10, t10⟩ := t10
              obtain ⟨A11, c11, t11, _⟩ := t11
              obtain ⟨Av, cv, t12, hVt⟩ := t12
              obtain ⟨A13, c13, t13⟩ := t13
              obtain ⟨Af, cf, t14, hIf⟩ := t14
              rw [t0, t2, t4, t5, t6, t7, t10, t11, t12, t13, t14]
              clear t0 t2 t4 t5 t6 t7 t8 t9 t10 t11 t12 t13 t14 hT
              generalize f 119 = g119 at *
              generalize f 121 = g121 at *
              generalize f 126 = g126 at *
              generalize f 117 = g117 at *
              go_wp2_with fail
              refine (same_any Av Aw l3 cv c3 T3 _ hVt (hVw5.out.ext hR.out) hl3.out (by omega)).mono ?_
              rintro e w8 ⟨rfl, x8⟩
              go_wp2_with fail
              refine (sameI_any Af Ab l2 cf c2 T2 _ (hIf.ext x8) (hIb5.out.ext (hR.out.trans x8)) hl2.out (by omega)).mono ?_
              rintro e w9 ⟨rfl, x9⟩
              go_wp2
              go_ret
              exact ⟨rfl, ((hX10.out.trans hR.out).trans x8).trans x9⟩
            · rw [if_neg (by decide)]
              refine softY_val 118 _ (by kernel_rfl) rfl rfl ?_
              intro a W hx hout hdep
              have ev24 : a.tmps[24]?.getD undef = .slice Au nu cu := by rw [← Array.getD_eq_getD_getElem?]; exact hout 24 (by show 24 ∉ [118, 119, 120, 121, 122, 123, 124, 125, 126, 117, 127, 128, 129, 25, 26]; decide)
              refine ⟨rfl, .slice Au nu cu, W, ?_, rfl, Ext.refl _⟩
              simp [ev24, execOp, go_sem]
            · rw [if_neg (by decide)]
              refine softY_val 119 _ (by kernel_rfl) rfl rfl ?_
              intro a W hx hout hdep
              refine ⟨rfl, .slice (some ⟨W.heap.size, 0, none⟩) 0 0, _, ?_, ⟨_, rfl, hx.1, heap_alloc_new W _⟩, (Ext.refl W).alloc _⟩
              simp [execOp, go_sem]
            · rw [if_neg (by decide)]
              refine softY_val 120 _ (by kernel_rfl) rfl rfl ?_
              intro a W hx hout hdep
              have ev23 : a.tmps[23]?.getD undef = .slice Ad nd cd := by rw [← Array.getD_eq_getD_getElem?]; exact hout 23 (by show 23 ∉ [118, 119, 120, 121, 122, 123, 124, 125, 126, 117, 127, 128, 129, 25, 26]; decide)
              refine ⟨rfl, .slice Ad nd cd, W, ?_, rfl, Ext.refl _⟩
              simp [ev23, execOp, go_sem]
            · rw [if_neg (by decide)]
              refine softY_val 121 _ (by kernel_rfl) rfl rfl ?_
              intro a W hx hout hdep
              have tl119 := (hdep ⟨1, .data⟩ (by simp) rfl 119 _ rfl (.inr (by kernel_rfl))).1
              have ev120 : a.tmps[120]?.getD undef = .slice Ad nd cd := by rw [← Array.getD_eq_getD_getElem?]; exact (hdep ⟨2, .data⟩ (by simp) rfl 120 _ rfl (.inl rfl)).1
              obtain ⟨q9, eq9, hq9, hc9⟩ := tl119
              have hx := RelB.ext hx
              have hs9 : a.eval (.tmp 119) = .slice (some ⟨q9, 0, none⟩) 0 0 := eq9
              have ht9 : a.eval (.tmp 120) = .slice Ad nd cd := (hdep ⟨2, .data⟩ (by simp) rfl 120 _ rfl (.inl rfl)).1
              obtain ⟨v9, w9, hrun9, ho9, hx9⟩ := run_append_P0 s0 W 23 q9 D Ad nd cd hnd.out (hID.out.ext hx) hx (by omega) hq9 hc9
              refine ⟨rfl, v9, w9, ?_, ho9, hx9⟩
              simp only [execOp, resolve, invoke, builtin, Sem.run_bind, Sem.run_pure, Result.andThen_ok, List.map_toArray, List.map_cons, List.map_nil, hs9, ht9, hrun9]
            · rw [if_neg (by decide)]
              refine softY_val 122 _ (by kernel_rfl) rfl rfl ?_
              intro a W hx hout hdep
              have ev9 : a.tmps[9]?.getD undef = .slice Am k cm := by rw [← Array.getD_eq_getD_getElem?]; exact hout 9 (by show 9 ∉ [118, 119, 120, 121, 122, 123, 124, 125, 126, 117, 127, 128, 129, 25, 26]; decide)
              refine ⟨rfl, .slice Am k cm, W, ?_, rfl, Ext.refl _⟩
              simp [ev9, execOp, go_sem]
            · rw [if_neg (by decide)]
              refine softY_val 123 _ (by kernel_rfl) rfl rfl ?_
              intro a W hx hout hdep
              have ev21 : a.tmps[21]?.getD undef = Vi (r : Int) := by rw [← Array.getD_eq_getD_getElem?]; exact hout 21 (by show 21 ∉ [118, 119, 120, 121, 122, 123, 124, 125, 126, 117, 127, 128, 129, 25, 26]; decide)
              refine ⟨rfl, Vi (r : Int), W, ?_, rfl, Ext.refl _⟩
              simp [ev21, execOp, go_sem]
            · rw [if_neg (by decide)]
              refine softY_val 124 _ (by kernel_rfl) rfl rfl ?_
              intro a W hx hout hdep
              have ev122 : a.tmps[122]?.getD undef = .slice Am k cm := by rw [← Array.getD_eq_getD_getElem?]; exact (hdep ⟨4, .data⟩ (by simp) rfl 122 _ rfl (.inl rfl)).1
              have ev123 : a.tmps[123]?.getD undef = Vi (r : Int) := by rw [← Array.getD_eq_getD_getElem?]; exact (hdep ⟨5, .data⟩ (by simp) rfl 123 _ rfl (.inl rfl)).1
              refine ⟨rfl, .slice (cutA Am cm r 7) (k - r) (cm - r), W, ?_, rfl, Ext.refl _⟩
              simp [ev122, ev123, hfr, execOp, go_sem]
            · rw [if_pos rfl]
              refine softZ_val 125 _ (by kernel_rfl) rfl rfl ?_
              intro a W hx hout hdep
              have tl121 := (hdep ⟨3, .data⟩ (by simp) rfl 121 _ rfl).1
              have ev124 : a.tmps[124]?.getD undef = .slice (cutA Am cm r 7) (k - r) (cm - r) := by rw [← Array.getD_eq_getD_getElem?]; exact (hdep ⟨6, .data⟩ (by simp) rfl 124 _ rfl).1
              have hx := RelB.ext hx
              have ht9 : a.eval (.tmp 124) = .slice (cutA Am cm r 7) (k - r) (cm - r) := (hdep ⟨6, .data⟩ (by simp) rfl 124 _ rfl).1
              generalize hv9 : a.tmps.getD 121 undef = vv at tl121
              have hs9 : a.eval (.tmp 121) = vv := hv9
              obtain ⟨v9, w9, hrun9, ho9, hg9⟩ := app_IB s0 W 23 vv D tl121 hx (cutA Am cm r 7) (k - r) (cm - r) (M.drop r) hl1'.out (hcutM.out.ext hx) (by rw [hnd.out]; omega)
              obtain ⟨A9, c9, rfl, hc9, hI9⟩ := ho9.open
              rw [hdl.out] at hc9 hrun9
              refine ⟨rfl, .slice A9 qd c9, w9, ?_, ⟨A9, c9, rfl, hc9, hI9⟩, hg9⟩
              simp only [execOp, resolve, invoke, builtin, Sem.run_bind, Sem.run_pure, Result.andThen_ok, List.map_toArray, List.map_cons, List.map_nil, hs9, ht9, hrun9]
            · rw [if_neg (by decide)]
              refine softY_call 126 _ (by kernel_rfl) rfl rfl ?_
              intro a W hx hout hdep
              have ev118 : a.tmps[118]?.getD undef = .slice Au nu cu := by rw [← Array.getD_eq_getD_getElem?]; exact (hdep ⟨0, .data⟩ (by simp) rfl 118 _ rfl (.inl rfl)).1
              have tl125 := (hdep ⟨7, .data⟩ (by simp) rfl 125 _ rfl (.inl rfl)).1
              have hx := RelB.ext hx
              obtain ⟨A7, c7, hv7, hc7, hI7⟩ := tl125
              rw [Array.getD_eq_getD_getElem?] at hv7
              refine ⟨rfl, 10, #[.slice Au nu cu, .slice A7 qd c7], ?_, ?_⟩
              · simp [hv7, ev118, execOp, go_sem]
              · exact (hgo.out A7 c7 W hx hI7 hc7).mono fun e W' h => h.tk
            · rw [if_neg (by decide)]
              refine softY_val 117 _ (by kernel_rfl) rfl rfl ?_
              intro a W hx hout hdep
              have tl126 := (hdep ⟨8, .data⟩ (by simp) rfl 126 _ rfl (.inl rfl)).1
              refine ⟨rfl, a.tmps.getD 126 undef, W, ?_, tl126, Ext.refl _⟩
              simp [execOp, go_sem]
            · rw [if_neg (by decide)]
              refine softY_val 127 _ (by kernel_rfl) rfl rfl ?_
              intro a W hx hout hdep
              have tl117 := (hdep ⟨9, .data⟩ (by simp) rfl 117 _ rfl (.inl rfl)).1
              obtain ⟨B1, d1, B2, d2, B3, d3, hv, g1, g2, g3⟩ := tl117
              rw [Array.getD_eq_getD_getElem?, hne1.out] at hv
              refine ⟨rfl, .slice B1 ne d1, W, ?_, ⟨_, _, rfl⟩, Ext.refl _⟩
              simp [hv, execOp, go_sem]
            · rw [if_neg (by decide)]
              refine softY_val 128 _ (by kernel_rfl) rfl rfl ?_
              intro a W hx hout hdep
              have tl117 := (hdep ⟨9, .data⟩ (by simp) rfl 117 _ rfl (.inl rfl)).1
              obtain ⟨B1, d1, B2, d2, B3, d3, hv, g1, g2, g3⟩ := tl117
              rw [Array.getD_eq_getD_getElem?, hl2.out] at hv
              refine ⟨rfl, .slice B2 l2 d2, W, ?_, ⟨_, _, rfl, g2⟩, Ext.refl _⟩
              simp [hv, execOp, go_sem]
            · rw [if_neg (by decide)]
              refine softY_val 129 _ (by kernel_rfl) rfl rfl ?_
              intro a W hx hout hdep
              have tl117 := (hdep ⟨9, .data⟩ (by simp) rfl 117 _ rfl (.inl rfl)).1
              obtain ⟨B1, d1, B2, d2, B3, d3, hv, g1, g2, g3⟩ := tl117
              rw [Array.getD_eq_getD_getElem?, hl3.out] at hv
              refine ⟨rfl, .slice B3 l3 d3, W, ?_, ⟨_, _, rfl, g3⟩, Ext.refl _⟩
              simp [hv, execOp, go_sem]
            · rw [if_neg (by decide)]
              refine softY_val 25 _ (by kernel_rfl) rfl rfl ?_
              intro a W hx hout hdep
              have tl127 := (hdep ⟨10, .data⟩ (by simp) rfl 127 _ rfl (.inl rfl)).1
              obtain ⟨B1, d1, hv⟩ := tl127
              rw [Array.getD_eq_getD_getElem?] at hv
              refine ⟨rfl, .slice B1 ne d1, W, ?_, ⟨_, _, rfl⟩, Ext.refl _⟩
              simp [hv, execOp, go_sem]
            · rw [if_neg (by decide)]
              refine softY_val 26 _ (by kernel_rfl) rfl rfl ?_
              intro a W hx hout hdep
              have tl128 := (hdep ⟨11, .data⟩ (by simp) rfl 128 _ rfl (.inl rfl)).1
              obtain ⟨B1, d1, hv, g1⟩ := tl128
              rw [Array.getD_eq_getD_getElem?] at hv
              refine ⟨rfl, .slice B1 l2 d1, W, ?_, ⟨_, _, rfl, g1⟩, Ext.refl _⟩
              simp [hv, execOp, go_sem]

end Go.Proofs.Ytdpmhhfpjpdfiaa

namespace Go.Proofs.Ytdpmhhfpjpdfiaa
open Go.ChangeShapes Go.WideShapes Go.ChangeAt Go.RowKit Go.Sort
set_option linter.unusedVariables false
set_option linter.unusedSimpArgs false

set_option maxRecDepth 100000 in
theorem vec_opens {H : Type} {enc : TypeId × Value → H} {W : World} {base b0 : Nat} {sp : Nat → Bool} {hd : Bool} {r : Reach} {v : Value} {d : DataW H} {p : List MemPlace} (hv : Value.okWide Try.prog W r b0 22 v) (h : DataW.Trod enc Try.prog W base sp hd 22 v d p) :
    ∃ (A : Option Addr) (n cap : Nat) (l : List (Int × Int)), v = .slice A n cap ∧ l.length = n ∧ n ≤ cap ∧ n ≤ maxLen ∧ Vec W A l ∧ wfC l := by
  obtain ⟨a, len, cap, rfl⟩ := okWide_slice Try.underlying22 hv
  obtain ⟨fuel, hf⟩ := h
  have hf' : DataW.trod enc Try.prog W base sp hd fuel 22 [.slice a len cap] = some (d, p) := hf
  rcases Go.Deep.open_slice_pairs Try.underlying22 Try.underlying42 (by kernel_rfl) rfl rfl (by kernel_rfl) (by kernel_rfl) hf' with ⟨e, _⟩ | ⟨a', len', cap', m, n, V0, V1, D0, D1, P0, P1, e, _, hl, hm, hmm, _, hi⟩
  · injection e with e
    injection e with e1 e2 e3
    subst e1
    subst e2
    subst e3
    exact ⟨_, _, _, [], rfl, rfl, Nat.le_refl _, by omega, Vec.nil _ _, by intro p hp; cases hp⟩
  · injection e with e
    injection e with e1 e2 e3
    subst e1
    subst e2
    subst e3
    have hml : len ≤ m := by rw [hmm]; split <;> omega
    have hcell : ∀ i, i < len → ∃ x y : Int, V0 i = Vu x ∧ V1 i = Vu y ∧ (0 ≤ x ∧ x ≤ 4294967295) ∧ (0 ≤ y ∧ y ≤ 4294967295) ∧ W.cell? (a'.add (i * 2)) = some (Vu x) ∧ W.cell? (a'.add (i * 2 + 1)) = some (Vu y) := by
      intro i hil
      obtain ⟨h0, h1, t0, t1⟩ := hi i (by omega)
      obtain ⟨x, e0, e1, wx⟩ := DataW.trod_int Try.underlying28 t0
      obtain ⟨y, e2, e3, wy⟩ := DataW.trod_int Try.underlying28 t1
      simp at e0 e2
      rw [e0] at h0
      rw [e2] at h1
      exact ⟨x, y, e0, e2, bounds_u32 wx, bounds_u32 wy, h0, h1⟩
    refine ⟨some a', len, cap, (List.range len).map fun i => (intOf (V0 i), intOf (V1 i)), rfl, by simp, hl, by omega, ?_, ?_⟩
    · intro h0
      have hlen : 0 < len := by
        rw [flat_len encC_len] at h0
        simp at h0
        omega
      obtain ⟨x, y, _, _, _, _, g0, _⟩ := hcell 0 hlen
      obtain ⟨b, o, spot⟩ := a'
      have hspot : spot = none := by simpa [Addr.add] using World.cell?_spot g0
      subst hspot
      refine ⟨b, o, rfl, fun j u hu => ?_⟩
      have hj : j < len * 2 := by
        rcases Nat.lt_or_ge j (len * 2) with k | k
        · exact k
        · rw [List.getElem?_eq_none (by rw [flat_len encC_len]; simpa using k)] at hu; cases hu
      obtain ⟨x, y, e0, e1, _, _, g0, g1⟩ := hcell (j / 2) (by omega)
      have hget : ((List.range len).map fun i => (intOf (V0 i), intOf (V1 i)))[j / 2]? = some (x, y) := by
        rw [List.getElem?_map, List.getElem?_range (by omega)]
        simp [e0, e1, intOf]
      rw [add_at] at g0 g1
      rcases Nat.mod_two_eq_zero_or_one j with k | k
      · have ej : j = j / 2 * 2 + 0 := by omega
        rw [ej, flat_at encC_len hget (by omega)] at hu
        have : u = Vu x := by simpa [encC] using hu.symm
        rw [this, ej]; exact g0
      · have ej : j = j / 2 * 2 + 1 := by omega
        rw [ej, flat_at encC_len hget (by omega)] at hu
        have : u = Vu y := by simpa [encC] using hu.symm
        rw [this, ej]; exact g1
    · intro p hp
      obtain ⟨i, hil, rfl⟩ := List.mem_map.1 hp
      obtain ⟨x, y, e0, e1, wx, wy, _⟩ := hcell i (List.mem_range.1 hil)
      rw [e0, e1]
      exact ⟨wx.1, wx.2, wy.1, wy.2⟩

end Go.Proofs.Ytdpmhhfpjpdfiaa

namespace Go.Proofs.Ytdpmhhfpjpdfiaa
open Go.ChangeShapes Go.WideShapes Go.ChangeAt Go.RowKit Go.Sort
set_option linter.unusedVariables false
set_option linter.unusedSimpArgs false

set_option maxRecDepth 100000 in
theorem structs_open {α : Type} [Inhabited α] {en : α → List Value} {s : Nat} (hs : ∀ x, (en x).length = s) (h0 : 0 < s) {T E : TypeId} (hT : Try.prog.underlying T = some (.slice E)) (ce : Try.prog.cellsOf E = s) {good : α → Prop}
    {H : Type} {enc : TypeId × Value → H} {W : World} {base b0 : Nat} {sp : Nat → Bool} {hd : Bool} {r : Reach} {v : Value} {d : DataW H} {p : List MemPlace} 
    (hel : ∀ (fuel : Nat) (cs : List Value) (x : DataW H × List MemPlace), cs.length = s → DataW.trod enc Try.prog W base sp hd fuel E cs = some x → ∃ q, good q ∧ en q = cs)
    (hv : Value.okWide Try.prog W r b0 T v) (h : DataW.Trod enc Try.prog W base sp hd T v d p) :
    ∃ (A : Option Addr) (n cap : Nat) (l : List α), v = .slice A n cap ∧ l.length = n ∧ n ≤ cap ∧ n ≤ maxLen ∧ Row W A (flat en l) ∧ ∀ x ∈ l, good x := by
  obtain ⟨a, len, cap, rfl⟩ := okWide_slice hT hv
  obtain ⟨fuel, hf⟩ := h
  have hf' : DataW.trod enc Try.prog W base sp hd fuel T [.slice a len cap] = some (d, p) := hf
  rcases Go.Deep.open_slice hT hf' with ⟨e, _⟩ | ⟨a', len', cap', m, n, D, Pl, e, _, hl, hm, hmm, _, hi⟩
  · injection e with e
    injection e with e1 e2 e3
    subst e1
    subst e2
    subst e3
    exact ⟨_, _, _, [], rfl, rfl, Nat.le_refl _, by omega, Row.nil _ _, by simp⟩
  · injection e with e
    injection e with e1 e2 e3
    subst e1
    subst e2
    subst e3
    have hml : len ≤ m := by rw [hmm]; split <;> omega
    have hcell : ∀ i, i < len → ∃ q : α, good q ∧ ∀ j u, (en q)[j]? = some u → W.cell? (a'.add (i * s + j)) = some u := by
      intro i hil
      obtain ⟨cs', h1, h2⟩ := hi i (by omega)
      rw [ce] at h1
      obtain ⟨_, hlen, hc⟩ := World.cells?_some h1
      obtain ⟨q, hq, hqc⟩ := hel _ _ _ hlen h2
      refine ⟨q, hq, fun j u hu => ?_⟩
      have hj : j < s := by
        rcases Nat.lt_or_ge j s with g | g
        · exact g
        · rw [List.getElem?_eq_none (by rw [hs]; exact g)] at hu; cases hu
      have e0 := hc j hj
      rw [Go.Deep.add_add] at e0
      rw [e0, ← hqc]
      exact hu
    obtain ⟨q, hq⟩ := Go.Deep.choose_lt hcell
    refine ⟨some a', len, cap, (List.range len).map q, rfl, by simp, hl, by omega, ?_, ?_⟩
    · intro hp
      have hlen : 0 < len := by
        rw [flat_len hs] at hp
        simp at hp
        rcases Nat.eq_zero_or_pos len with z | z
        · rw [z] at hp; simp at hp
        · exact z
      obtain ⟨u0, hu0⟩ : ∃ u, (en (q 0))[0]? = some u := ⟨_, List.getElem?_eq_getElem (by rw [hs]; exact h0)⟩
      have g0 := (hq 0 hlen).2 0 u0 hu0
      obtain ⟨b, o, spot⟩ := a'
      have hspot : spot = none := by simpa [Addr.add] using World.cell?_spot g0
      subst hspot
      refine ⟨b, o, rfl, fun j u hu => ?_⟩
      have hj : j < len * s := by
        rcases Nat.lt_or_ge j (len * s) with k | k
        · exact k
        · rw [List.getElem?_eq_none (by rw [flat_len hs]; simpa using k)] at hu; cases hu
      have hdiv : j / s < len := Nat.div_lt_of_lt_mul (by rw [Nat.mul_comm]; exact hj)
      have hget : ((List.range len).map q)[j / s]? = some (q (j / s)) := by
        rw [List.getElem?_map, List.getElem?_range hdiv]; rfl
      have ej : j = j / s * s + j % s := by rw [Nat.mul_comm]; exact (Nat.div_add_mod j s).symm
      rw [ej, flat_at hs hget (Nat.mod_lt _ h0)] at hu
      have := (hq (j / s) hdiv).2 (j % s) u hu
      rw [add_at] at this
      rw [ej]; exact this
    · intro x hx
      obtain ⟨i, hi', rfl⟩ := List.mem_map.1 hx
      exact (hq i (List.mem_range.1 hi')).1

set_option maxRecDepth 100000 in
theorem id_cells {H : Type} {enc : TypeId × Value → H} {W : World} {base : Nat} {sp : Nat → Bool} {hd : Bool} {fuel : Nat} {v0 v1 : Value} {x : DataW H × List MemPlace} (h : DataW.trod enc Try.prog W base sp hd fuel 30 [v0, v1] = some x) :
    ∃ a b : Int, v0 = Vu a ∧ v1 = Vu b ∧ 0 ≤ a ∧ a ≤ 4294967295 ∧ 0 ≤ b ∧ b ≤ 4294967295 := by
  obtain ⟨xs, k, hk, hxy, _, hxl, hfd⟩ := DataW.trod_struct Try.underlying30 h
  match xs, hxl with
  | [y0, y1], _ =>
    have g0 := hfd 0 _ rfl
    have g1 := hfd 1 _ rfl
    have cu : Try.prog.cellsOf 28 = 1 := by kernel_rfl
    simp [cu] at g0 g1
    obtain ⟨a, t0, _, wa⟩ := DataW.trod_int Try.underlying28 g0
    obtain ⟨b, t1, _, wb⟩ := DataW.trod_int Try.underlying28 g1
    simp at t0 t1
    have ba := bounds_u32 wa
    have bb := bounds_u32 wb
    exact ⟨a, b, t0, t1, ba.1, ba.2, bb.1, bb.2⟩

end Go.Proofs.Ytdpmhhfpjpdfiaa

namespace Go.Proofs.Ytdpmhhfpjpdfiaa
open Go.ChangeShapes Go.WideShapes Go.ChangeAt Go.RowKit Go.Sort
set_option linter.unusedVariables false
set_option linter.unusedSimpArgs false

instance inhItem : Inhabited It := ⟨⟨0, 0, 0, 0, 0, 0, 0⟩⟩
instance : Inhabited Rn := ⟨⟨0, 0, 0, 0, 0, 0, []⟩⟩
theorem bounds_i32 {a : Int} (h : (Lit.int .i32 a).wf = true) : -2147483648 ≤ a ∧ a ≤ 2147483647 := by
  simpa [Lit.wf, IntKind.min, IntKind.max, IntKind.signed, IntKind.bits] using h
theorem list7 {α : Type} {l : List α} (h : l.length = 7) : ∃ a b c d e f g, l = [a, b, c, d, e, f, g] := by
  match l, h with
  | [a, b, c, d, e, f, g], _ => exact ⟨a, b, c, d, e, f, g, rfl⟩
theorem list4 {α : Type} {l : List α} (h : l.length = 4) : ∃ a b c d, l = [a, b, c, d] := by
  match l, h with
  | [a, b, c, d], _ => exact ⟨a, b, c, d, rfl⟩

set_option maxRecDepth 100000 in
theorem item_cells {H : Type} {enc : TypeId × Value → H} {W : World} {base : Nat} {sp : Nat → Bool} {hd : Bool} (fuel : Nat) (cs : List Value) (x : DataW H × List MemPlace) (hl : cs.length = 7) (h : DataW.trod enc Try.prog W base sp hd fuel 32 cs = some x) :
    ∃ q, wfI q ∧ encI q = cs := by
  obtain ⟨v0, v1, v2, v3, v4, v5, v6, rfl⟩ := list7 hl
  obtain ⟨xs, k, hk, hxy, _, hxl, hfd⟩ := DataW.trod_struct Try.underlying32 h
  obtain ⟨y0, y1, y2, y3, rfl⟩ := list4 hxl
  have g0 := hfd 0 _ rfl
  have g1 := hfd 1 _ rfl
  have g2 := hfd 2 _ rfl
  have g3 := hfd 3 _ rfl
  have cu : Try.prog.cellsOf 21 = 1 := by kernel_rfl
  have ci : Try.prog.cellsOf 30 = 2 := by kernel_rfl
  simp [cu, ci] at g0 g1 g2 g3
  obtain ⟨a, b, rfl, rfl, a1, a2, b1, b2⟩ := id_cells g0
  obtain ⟨c, d, rfl, rfl, c1, c2, d1, d2⟩ := id_cells g1
  obtain ⟨e, f, rfl, rfl, e1, e2, f1, f2⟩ := id_cells g2
  obtain ⟨z, t0, _, wz⟩ := DataW.trod_int Try.underlying21 g3
  simp at t0
  subst t0
  have bz := bounds_i32 wz
  exact ⟨⟨a, b, c, d, e, f, z⟩, ⟨a1, a2, b1, b2, c1, c2, d1, d2, e1, e2, f1, f2, bz.1, bz.2⟩, rfl⟩
set_option maxRecDepth 100000 in
theorem items_open {H : Type} {enc : TypeId × Value → H} {W : World} {base b0 : Nat} {sp : Nat → Bool} {hd : Bool} {r : Reach} {v : Value} {d : DataW H} {p : List MemPlace} (hv : Value.okWide Try.prog W r b0 23 v) (h : DataW.Trod enc Try.prog W base sp hd 23 v d p) :
    ∃ (A : Option Addr) (n cap : Nat) (l : List It), v = .slice A n cap ∧ l.length = n ∧ n ≤ cap ∧ n ≤ maxLen ∧ ItS W A l ∧ wfIs l :=
  structs_open encI_len (by omega) Try.underlying23 (by kernel_rfl) item_cells hv h
end Go.Proofs.Ytdpmhhfpjpdfiaa

namespace Go.Proofs.Ytdpmhhfpjpdfiaa
open Go.ChangeShapes Go.WideShapes Go.ChangeAt Go.RowKit Go.Sort
set_option linter.unusedVariables false
set_option linter.unusedSimpArgs false

set_option maxRecDepth 100000 in
theorem pendRest_lifted (K : PdK) (os : Os) (started : os.Started) (H : Type) (enc : TypeId × Value → H) :
    ReturnsInHanded {} Try.checked os 4 .any (Rows.pendRestSpec.pre6 enc Try.prog Try.f4 Rows.pendRestRow.domain false) (Rows.pendRestSpec.post enc Try.prog Try.f4 false true false false) := by
  refine returnsInHanded_of_change (C := Try.checked) own started (by kernel_rfl) Try.func4
    (ChangeSpec.witness6 (enc := enc) (C := Try.checked) false ⟨#[], #[.slice none 0 0, .slice none 0 0, .int .i64 0], []⟩ 8 (by kernel_rfl) (by kernel_rfl) (by kernel_rfl) (by kernel_rfl)) ?_
  intro W base args ds gs before hval0 hW _ _
  have hval : ∀ (j : Nat) t v, Try.f4.params[j]? = some t → args[j]? = some v → Value.okWide Try.prog W .any base t v := hval0
  have hW' := hW
  obtain ⟨p, q, hA0, hV, rfl, _, _⟩ := hW
  have hA : DataW.TrodAll enc Try.prog W 0 (fun _ => true) true Try.f4.params.toList args.toList ds p := hA0
  rw [Try.params4] at hA hval
  obtain ⟨v0, v1, v2, d0, d1, d2, p0, p1, p2, rfl, rfl, rfl, h0, h1, h2⟩ := trodAll_three hA
  obtain ⟨rfl, rfl⟩ := trodVars_none hV
  obtain ⟨A, n, ca, v, rfl, hn, hca, hn1, hv, hwv⟩ := vec_opens (hval 0 22 v0 rfl rfl) h0
  obtain ⟨B, m, cb, l, rfl, hm, hcb, hm1, hu, hwl⟩ := items_open (hval 1 23 v1 rfl rfl) h1
  obtain ⟨z, rfl, rfl, rfl, wz⟩ := open_int Try.underlying3 (hval 2 3 v2 rfl rfl) h2
  clear hA0 hval0
  refine (pendRest_walk K A B n ca m cb v l z W hv hu hn hm hca hcb hwv hwl hn1).mono fun e W' ⟨he, hg⟩ => ?_
  subst he
  exact ⟨_, rfl, law_post hW' laid (by decide +kernel) rfl rfl rfl rfl hg (by kernel_rfl) Try.underlying4⟩

theorem pendRest_of (K : PdK) : Rows.PendRestSaid :=
  OpenClaim.holds_of_wide 4 Try.f4 rfl rfl rfl rfl rfl rfl rfl ⟨rfl, rfl, rfl, rfl, rfl⟩ rfl rfl rfl rfl rfl (by kernel_rfl) Try.func4 (by kernel_rfl)
    (of_decide_eq_true (by kernel_rfl)) (by unfold Func.isWrapper; first | (rw [if_pos (by decide +kernel)]; kernel_rfl) | (rw [if_neg (by decide +kernel)]; exact ⟨rfl, rfl⟩))
    (fun os started H enc _ => pendRest_lifted K os started H enc)

end Go.Proofs.Ytdpmhhfpjpdfiaa
