/-
  SubsPlays' walk; no claim stands here.
-/
import Derived.Test.YtfcoidpkhggnpaaSbK
namespace Go.Proofs.Ytfcoidpkhggnpaa
open Go.ChangeShapes Go.WideShapes Go.ChangeAt Go.RowKit Go.Sort
set_option linter.unusedVariables false
attribute [local go_sem] World.cell?_alloc_some

/-- a deed -/
structure Dd where
  what : Int
  m : Ms
def encD (x : Dd) : List Value := [Vi x.what, Vi x.m.v, .bool x.m.w, Vs x.m.t, Vi x.m.a, Vi x.m.d, Vs x.m.i]
theorem encD_len (p : Dd) : (encD p).length = 7 := rfl
/-- from that address on lie these -/
def DdS (w : World) (A : Option Addr) (l : List Dd) : Prop := Row w A (flat encD l)
theorem DdS.ext {w w' : World} {A : Option Addr} {l : List Dd} (h : DdS w A l) (hx : Ext w w') : DdS w' A l := Row.ext h hx
theorem DdS.at {w : World} {A : Option Addr} {l : List Dd} (h : DdS w A l) {k : Nat} (hk : k < l.length) : ∃ b o x, A = some ⟨b, o, none⟩ ∧ l[k]? = some x ∧ b < w.heap.size ∧ w.cell? ⟨b, o + k * 7, none⟩ = some (Vi x.what) ∧ w.cell? ⟨b, o + k * 7 + 1, none⟩ = some (Vi x.m.v) ∧ w.cell? ⟨b, o + k * 7 + 1 + 1, none⟩ = some (.bool x.m.w) ∧ w.cell? ⟨b, o + k * 7 + 1 + 2, none⟩ = some (Vs x.m.t) ∧ w.cell? ⟨b, o + k * 7 + 1 + 3, none⟩ = some (Vi x.m.a) ∧ w.cell? ⟨b, o + k * 7 + 1 + 4, none⟩ = some (Vi x.m.d) ∧ w.cell? ⟨b, o + k * 7 + 1 + 5, none⟩ = some (Vs x.m.i) := by
  obtain ⟨x, hp⟩ : ∃ p, l[k]? = some p := ⟨l[k], List.getElem?_eq_getElem hk⟩
  obtain ⟨b, o, e, hc⟩ := Row.at h encD_len hp (by omega)
  have h0 := hc 0 _ rfl
  exact ⟨b, o, x, e, hp, World.block_lt_of_cell? _ _ h0, h0, hc 1 _ rfl, hc 2 _ rfl, hc 3 _ rfl, hc 4 _ rfl, hc 5 _ rfl, hc 6 _ rfl⟩
theorem TSb.cell {S : Nat → Prop} {q j : Nat} {W W' : World} {x : Value} (h : TSb S W W') (hc : W.cell? ⟨q, j, none⟩ = some x) (hne : ¬ S q) : W'.cell? ⟨q, j, none⟩ = some x := by
  rw [World.cell?_of_block (w := W) (w' := W') (a := ⟨q, j, none⟩) (h.block q (World.block_lt_of_cell? _ _ hc) hne)]; exact hc
theorem MsS.ts {S : Nat → Prop} {W W' : World} {A : Option Addr} {l : List Ms} (h : MsS W A l) (ht : TSb S W W') (hne : ∀ b o, A = some ⟨b, o, none⟩ → l ≠ [] → ¬ S b) : MsS W' A l := fun h0 => by
  obtain ⟨b, o, e, hc⟩ := h h0
  exact ⟨b, o, e, fun j u hu => ht.cell (hc j u hu) (hne b o e fun el => by rw [el] at h0; simp [flat] at h0)⟩

/-- what the slots hold -/
def sbpD (b o n cap j : Nat) (ad : Addr) (pm no : Nat) (x : Ms) (out : List Ms) (Sm : Nat → Prop) : SoftTab := [(58, fun z9 W => z9 = .pointer (some ad)),
  (59, fun z9 W => z9 = .slice (some ⟨b, o, none⟩) n cap),
  (60, fun z9 W => z9 = Vi (j : Int)),
  (61, fun z9 W => z9 = .pointer (some ⟨b, o + j * 7, none⟩)),
  (62, fun z9 W => z9 = .pointer (some ⟨b, o + j * 7 + 1, none⟩)),
  (63, fun z9 W => z9 = .pointer (some ⟨b, o + j * 7 + 1, none⟩)),
  (64, fun z9 W => z9 = Vi x.v),
  (65, fun z9 W => z9 = .slice (some ⟨b, o, none⟩) n cap),
  (66, fun z9 W => z9 = Vi (j : Int)),
  (67, fun z9 W => z9 = .pointer (some ⟨b, o + j * 7, none⟩)),
  (68, fun z9 W => z9 = .pointer (some ⟨b, o + j * 7 + 1, none⟩)),
  (69, fun z9 W => z9 = .pointer (some ⟨b, o + j * 7 + 1 + 2, none⟩)),
  (70, fun z9 W => z9 = Vs x.t),
  (71, fun z9 W => ∃ (A : Option Addr) (c : Nat), z9 = .slice A no c ∧ MsS W A out ∧ ∀ b o, A = some ⟨b, o, none⟩ → out ≠ [] → ¬ Sm b),
  (72, fun z9 W => z9 = .pointer (some ⟨pm, 0, none⟩)),
  (73, fun z9 W => z9 = .slice (some ⟨b, o, none⟩) n cap),
  (74, fun z9 W => z9 = Vi (j : Int)),
  (75, fun z9 W => z9 = .pointer (some ⟨b, o + j * 7, none⟩)),
  (76, fun z9 W => z9 = .pointer (some ⟨b, o + j * 7 + 1, none⟩)),
  (77, fun z9 W => z9 = .pointer (some ⟨b, o + j * 7 + 1, none⟩)),
  (78, fun z9 W => z9 = Vi x.v),
  (79, fun z9 W => z9 = .slice (some ⟨b, o, none⟩) n cap),
  (80, fun z9 W => z9 = Vi (j : Int)),
  (81, fun z9 W => z9 = .pointer (some ⟨b, o + j * 7, none⟩)),
  (82, fun z9 W => z9 = .pointer (some ⟨b, o + j * 7 + 1, none⟩)),
  (83, fun z9 W => z9 = .pointer (some ⟨b, o + j * 7 + 1 + 2, none⟩)),
  (84, fun z9 W => z9 = Vs x.t)]
theorem sbpD_mono (b o n cap j : Nat) (ad : Addr) (pm no : Nat) (x : Ms) (out : List Ms) (Sm : Nat → Prop) (S : Nat → Prop) : SoftMonoX (TSb S) 13 (sbpD b o n cap j ad pm no x out Sm) := by
  constructor
  · intro j' d R hk v W W' h hx
    match j', hk with
    | 0, hk => cases hk; exact h
    | 1, hk => cases hk; exact h
    | 2, hk => cases hk; exact h
    | 3, hk => cases hk; exact h
    | 4, hk => cases hk; exact h
    | 5, hk => cases hk; exact h
    | 6, hk => cases hk; exact h
    | 7, hk => cases hk; exact h
    | 8, hk => cases hk; exact h
    | 9, hk => cases hk; exact h
    | 10, hk => cases hk; exact h
    | 11, hk => cases hk; exact h
    | 12, hk => cases hk; exact h
    | 13, hk => cases hk; exact (by obtain ⟨A, c, h1, h2, h3⟩ := h; exact ⟨A, c, h1, h2.ext hx, h3⟩)
    | 14, hk => cases hk; exact h
    | 15, hk => cases hk; exact h
    | 16, hk => cases hk; exact h
    | 17, hk => cases hk; exact h
    | 18, hk => cases hk; exact h
    | 19, hk => cases hk; exact h
    | 20, hk => cases hk; exact h
    | 21, hk => cases hk; exact h
    | 22, hk => cases hk; exact h
    | 23, hk => cases hk; exact h
    | 24, hk => cases hk; exact h
    | 25, hk => cases hk; exact h
    | 26, hk => cases hk; exact h
    | j' + 27, hk => simp [sbpD] at hk
  · intro j' d R hk hne v W W' h hx
    match j', hk with
    | 0, hk => cases hk; exact h
    | 1, hk => cases hk; exact h
    | 2, hk => cases hk; exact h
    | 3, hk => cases hk; exact h
    | 4, hk => cases hk; exact h
    | 5, hk => cases hk; exact h
    | 6, hk => cases hk; exact h
    | 7, hk => cases hk; exact h
    | 8, hk => cases hk; exact h
    | 9, hk => cases hk; exact h
    | 10, hk => cases hk; exact h
    | 11, hk => cases hk; exact h
    | 12, hk => cases hk; exact h
    | 13, hk => exact absurd rfl hne
    | 14, hk => cases hk; exact h
    | 15, hk => cases hk; exact h
    | 16, hk => cases hk; exact h
    | 17, hk => cases hk; exact h
    | 18, hk => cases hk; exact h
    | 19, hk => cases hk; exact h
    | 20, hk => cases hk; exact h
    | 21, hk => cases hk; exact h
    | 22, hk => cases hk; exact h
    | 23, hk => cases hk; exact h
    | 24, hk => cases hk; exact h
    | 25, hk => cases hk; exact h
    | 26, hk => cases hk; exact h
    | j' + 27, hk => simp [sbpD] at hk
/-- what the slots hold -/
def sbpP (b o n cap j : Nat) (ad : Addr) (pm k : Nat) (x : Ms) (l : List Ms) (g : Bool) : SoftTab := [(88, fun z9 W => z9 = .pointer (some ad)),
  (89, fun z9 W => z9 = .slice (some ⟨b, o, none⟩) n cap),
  (90, fun z9 W => z9 = Vi (j : Int)),
  (91, fun z9 W => z9 = .pointer (some ⟨b, o + j * 7, none⟩)),
  (92, fun z9 W => z9 = .pointer (some ⟨b, o + j * 7 + 1, none⟩)),
  (93, fun z9 W => z9 = msv x),
  (94, fun z9 W => z9 = .bool (okP k l g)),
  (95, fun z9 W => z9 = .pointer (some ⟨pm, 0, none⟩)),
  (96, fun z9 W => z9 = .slice (some ⟨b, o, none⟩) n cap),
  (97, fun z9 W => z9 = Vi (j : Int)),
  (98, fun z9 W => z9 = .pointer (some ⟨b, o + j * 7, none⟩)),
  (99, fun z9 W => z9 = .pointer (some ⟨b, o + j * 7 + 1, none⟩)),
  (100, fun z9 W => z9 = msv x)]
theorem sbpP_mono (b o n cap j : Nat) (ad : Addr) (pm k : Nat) (x : Ms) (l : List Ms) (g : Bool) (S : Nat → Prop) : SoftMonoX (TSb S) 6 (sbpP b o n cap j ad pm k x l g) := by
  constructor
  · intro j' d R hk v W W' h hx
    match j', hk with
    | 0, hk => cases hk; exact h
    | 1, hk => cases hk; exact h
    | 2, hk => cases hk; exact h
    | 3, hk => cases hk; exact h
    | 4, hk => cases hk; exact h
    | 5, hk => cases hk; exact h
    | 6, hk => cases hk; exact h
    | 7, hk => cases hk; exact h
    | 8, hk => cases hk; exact h
    | 9, hk => cases hk; exact h
    | 10, hk => cases hk; exact h
    | 11, hk => cases hk; exact h
    | 12, hk => cases hk; exact h
    | j' + 13, hk => simp [sbpP] at hk
  · intro j' d R hk hne v W W' h hx
    match j', hk with
    | 0, hk => cases hk; exact h
    | 1, hk => cases hk; exact h
    | 2, hk => cases hk; exact h
    | 3, hk => cases hk; exact h
    | 4, hk => cases hk; exact h
    | 5, hk => cases hk; exact h
    | 6, hk => exact absurd rfl hne
    | 7, hk => cases hk; exact h
    | 8, hk => cases hk; exact h
    | 9, hk => cases hk; exact h
    | 10, hk => cases hk; exact h
    | 11, hk => cases hk; exact h
    | 12, hk => cases hk; exact h
    | j' + 13, hk => simp [sbpP] at hk

/-- what the deeds' loop keeps -/
def PlQ (K : SbK) (w : World) (ad : Addr) (pm k j : Nat) (W : World) : Prop :=
  ∃ (l : List Ms) (g : Bool) (Sq Sm : Nat → Prop), K.Q W (.pointer (some ad)) k l g Sq ∧ RfQ W (.pointer (some ⟨pm, 0, none⟩)) k l g Sm ∧ AbQ w Sq ∧ AbQ w Sm ∧ (∀ b, Sq b → ¬ Sm b) ∧ l.length ≤ j ∧ Ext w W
theorem PlQ.ext {K : SbK} {w : World} {ad : Addr} {pm k j : Nat} {W W' : World} (h : PlQ K w ad pm k j W) (hx : Ext W W') : PlQ K w ad pm k j W' := by
  obtain ⟨l, g, Sq, Sm, h1, h2, h3, h4, h5, h6, h7⟩ := h
  exact ⟨l, g, Sq, Sm, K.w.ext h1 hx, rf_w.ext h2 hx, h3, h4, h5, h6, h7.trans hx⟩

set_option maxRecDepth 100000 in
set_option maxHeartbeats 16000000 in
theorem subsPlays_walk (K : SbK) (room : Int) (A : Option Addr) (n cap : Nat) (L : List Dd) (w : World) (hv : DdS w A L) (hsm : ∀ y ∈ L, SmM y.m) (hn : L.length = n) (hr0 : -9223372036854775808 ≤ room) (hr1 : room ≤ 9223372036854775807) (hn1 : n ≤ maxLen) :
    Calls Try.prog 3 #[Vi room, .slice A n cap] w fun e w' => e = .returned (.bool true) ∧ Ext w w' := by
  unfold maxLen at hn1
  have hz0 : errv 0 = .nilIface := by simp [errv]
  have hz1 : errv 1 = .iface 47 (.int .i64 1) := by simp [errv]
  have hcode := Lib.hid (fun W => code_any 1 W (by omega) (by omega))
  rw [hz1] at hcode
  have hnew := Lib.hid (fun W => K.new room W hr0 hr1)
  replace hv := Lib.hid hv
  replace hsm := Lib.hid hsm
  replace hn := Lib.hid hn
  go_enter Try.func3, Try.ntmps3
  go_wp2_with fail
  refine (up13_any K _).mono ?_
  rintro e w1 ⟨rfl, x1⟩
  by_cases h100 : 100 < n
  · clear hcode hnew hz0 hz1
    go_wp2
    go_ret
    exact ⟨rfl, x1⟩
  go_wp2_with fail
  refine (hnew.out _).mono ?_
  rintro e w2 ⟨⟨h1, h2⟩, x2⟩
  replace x2 := x1.trans x2
  by_cases hrm : 1 ≤ room ∧ room ≤ 1000
  · obtain ⟨ad, S1, rfl, q1, s1⟩ := h1 hrm
    obtain ⟨k, rfl⟩ : ∃ k : Nat, room = k := ⟨room.toNat, by omega⟩
    rw [Int.toNat_natCast] at q1
    rw [hz0]
    have hlo : ¬ ((k : Int) < 1) := by omega
    have hhi : ¬ (1000 < (k : Int)) := by omega
    have hkk : k ≤ 1000 := by omega
    have s1' : AbQ w S1 := fun b hb => Nat.le_trans x1.size (s1 b hb)
    clear h1 h2 hcode hnew hz0 hz1 hrm s1 hr0 hr1
    go_wp2_with fail
    have bq : BxQ (w2.alloc (.cells #[.slice none 0 0, Vi (k : Int), .bool false] 33)) w2.heap.size (.slice none 0 0) k false := heap_alloc_new w2 _
    have xq : Ext w2 (w2.alloc (.cells #[.slice none 0 0, Vi (k : Int), .bool false] 33)) := (Ext.refl _).alloc _
    obtain ⟨pm, hpm⟩ : ∃ p, w2.heap.size = p := ⟨_, rfl⟩
    have hP0 := Lib.hid (show PlQ K w ad pm k 0 (w2.alloc (.cells #[.slice none 0 0, Vi (k : Int), .bool false] 33)) from by
      rw [hpm] at bq
      refine ⟨[], false, S1, fun b => b = pm, K.w.ext q1 xq, ⟨pm, _, w, rfl, bq, OwnM.nil _ _, (x2.trans xq).size, (fun e => by cases e), fun b => ⟨.inl, fun h => h.elim id (fun e => by cases e)⟩⟩, s1', fun b hb => ?_, fun b hb hm => ?_, by simp, x2.trans xq⟩
      · have := x2.size; rw [hb]; omega
      · have := K.w.low q1 b hb; rw [hm] at this; omega)
    replace hpm := Lib.hid hpm
    clear bq xq q1 s1' x2 x1
    rw [hpm.out]
    generalize w2.alloc (.cells #[.slice none 0 0, Vi (k : Int), .bool false] 33) = w3 at *
    go_loopw [9] (fun s W => ∃ j : Nat, j ≤ n ∧ s = Vi j ∧ Hid (PlQ K w ad pm k j W)) (fun s _ => n - (intOf s).toNat)
    case atStart => exact ⟨0, Nat.zero_le _, rfl, hP0⟩
    case round =>
      clear hP0
      obtain ⟨j, hj, rfl, hP⟩ := hrel
      by_cases hlt : j < n
      · obtain ⟨b, o, y, hA, hy, hbw, c0, c1, c2, c3, c4, c5, c6⟩ := hv.out.at (k := j) (by rw [hn.out]; exact hlt)
        have hi1 : (0 : Int) ≤ (j : Int) := by omega
        have hi2 : (j : Int) < (n : Int) := by omega
        obtain ⟨l, g, Sq, Sm, hq, hm, hab, hbm, hdj, hlj, hxw⟩ := hP.out
        replace c0 := hxw.keep c0
        replace c1 := hxw.keep c1
        replace c2 := hxw.keep c2
        replace c3 := hxw.keep c3
        replace c4 := hxw.keep c4
        replace c5 := hxw.keep c5
        replace c6 := hxw.keep c6
        subst hA
        have hsx := hsm.out y (List.mem_of_getElem? hy)
        clear hy
        have hpk := Lib.hid (fun W : World => (show ((3 : Nat) : Int) = 3 from rfl) ▸ pick8_any y.what 3 W (by omega) (by omega))
        obtain ⟨x, hyx⟩ : ∃ x, y.m = x := ⟨_, rfl⟩
        rw [hyx] at c1 c2 c3 c4 c5 c6 hsx
        replace hsx := Lib.hid hsx
        go_wp2_with fail
        refine (hpk.out _).mono ?_
        rintro e _ ⟨⟨r, hr, rfl⟩, rfl⟩
        have hbS : ¬ Sq b := fun h => by have := hab b h; omega
        have hll := Lib.hid (show l.length ≤ 1000 by omega)
        have hml := Lib.hid (fun b hb => rf_w.low hm b hb)
        replace hq := Lib.hid hq
        replace hm := Lib.hid hm
        replace hab := Lib.hid hab
        replace hbm := Lib.hid hbm
        replace hdj := Lib.hid hdj
        replace hxw := Lib.hid hxw
        clear c0 hpk hyx
        go_upto_if 57 with fail
        go_cut [5] (fun s wx => s = .bool true ∧ Hid (PlQ K w ad pm k (j + 1) wx))
        case first =>
          by_cases hr2 : r = 2
          · subst hr2
            have hdr := Lib.hid (fun (W : World) (h : K.Q W (.pointer (some ad)) k l g Sq) => K.w.drain x.v x.t hsx.out.1 h hll.out)
            have hdm := Lib.hid (fun (W : World) (h : RfQ W (.pointer (some ⟨pm, 0, none⟩)) k l g Sm) => drainRf x.v x.t h hll.out)
            have hol := outQ_len l g x.v x.t
            generalize outQ l g x.v x.t = out at *
            obtain ⟨no, hno⟩ : ∃ q, out.length = q := ⟨_, rfl⟩
            rw [hno] at hol hdr hdm
            replace hno := Lib.hid hno
            have hrz : (((2 : Nat) : Int) == 2) = true := rfl
            have hnob : no ≤ 100000 := by have := hll.out; omega
            rw [hrz]
            go_wp2_with fail
            refine wp_soft_frameX (TSb Sq) 13 (fun W => K.Q W (.pointer (some ad)) k l g Sq) (fun W => ∃ S2, K.Q W (.pointer (some ad)) k [] false S2 ∧ AbQ w S2 ∧ ∀ b, S2 b → ¬ Sm b) 27 (sbpD b o n cap j ad pm no x out Sm) (by kernel_rfl) (by kernel_rfl) (fun _ _ _ h h2 => TSb.trans h h2 (fun _ _ e => e)) (fun _ _ h => TSb.ext h) (fun _ _ h hh => K.w.ext hh h) (fun _ _ h hh => by obtain ⟨S2, p1, p2, p3⟩ := hh; exact ⟨S2, K.w.ext p1 h, p2, p3⟩) (by omega) hq.out rfl (by show List.Nodup [58, 59, 60, 61, 62, 63, 64, 65, 66, 67, 68, 69, 70, 71, 72, 73, 74, 75, 76, 77, 78, 79, 80, 81, 82, 83, 84]; decide) (by show ∀ d ∈ [58, 59, 60, 61, 62, 63, 64, 65, 66, 67, 68, 69, 70, 71, 72, 73, 74, 75, 76, 77, 78, 79, 80, 81, 82, 83, 84], d < 112; decide) (sbpD_mono b o n cap j ad pm no x out Sm Sq) ?_ ⟨?_, ?_, ?_, ?_, ?_, ?_, ?_, ?_, ?_, ?_, ?_, ?_, ?_, ?_, ?_, ?_, ?_, ?_, ?_, ?_, ?_, ?_, ?_, ?_, ?_, ?_, ?_, trivial⟩
            · intro W vs hT hR hPost
              match vs, hT with
              | [v0, v1, v2, v3, v4, v5, v6, v7, v8, v9, v10, v11, v12, v13, v14, v15, v16, v17, v18, v19, v20, v21, v22, v23, v24, v25, v26], ⟨e0, e1, e2, e3, e4, e5, e6, e7, e8, e9, e10, e11, e12, e13, e14, e15, e16, e17, e18, e19, e20, e21, e22, e23, e24, e25, e26, _⟩ =>
                simp only [sbpD, List.map_cons, List.map_nil, List.zip_cons_cons, List.zip_nil_left, putAll, List.setIfInBounds_toArray, List.set_cons_zero, List.set_cons_succ, List.drop_succ_cons, List.drop_zero]
                simp only at e0 e1 e2 e3 e4 e5 e6 e7 e8 e9 e10 e11 e12 e14 e15 e16 e17 e18 e19 e20 e21 e22 e23 e24 e25 e26
                obtain ⟨A1, z1, e13, hA1, hA1m⟩ := e13
                rw [e0, e1, e2, e3, e4, e5, e6, e7, e8, e9, e10, e11, e12, e13, e14, e15, e16, e17, e18, e19, e20, e21, e22, e23, e24, e25, e26]
                clear e0 e1 e2 e3 e4 e5 e6 e7 e8 e9 e10 e11 e12 e13 e14 e15 e16 e17 e18 e19 e20 e21 e22 e23 e24 e25 e26 v0 v1 v2 v3 v4 v5 v6 v7 v8 v9 v10 v11 v12 v13 v14 v15 v16 v17 v18 v19 v20 v21 v22 v23 v24 v25 v26
                replace hR := Lib.hid hR
                obtain ⟨S2, p1, p2, p3⟩ := hPost
                have hm1 := rf_w.far hm.out hR.out.size (fun b hb => hR.out.block b (hml.out b hb) (fun e => hdj.out b e hb))
                have hX1 := Lib.hid (hR.out.down hxw.out hab.out)
                have hfin := Lib.hid (fun (W2 W3 : World) (Sm2 : Nat → Prop) (hm2 : RfQ W2 (.pointer (some ⟨pm, 0, none⟩)) k [] false Sm2) (t2 : TSb Sm W W2) (b2 : ∀ b, Sm2 b → Sm b ∨ W.heap.size ≤ b) (x3 : Ext W2 W3) => show PlQ K w ad pm k (j + 1) W3 from by
                  refine PlQ.ext (W := W2) ⟨[], false, S2, Sm2, K.w.far p1 t2.size (fun b hb => t2.block b (K.w.low p1 b hb) (p3 b hb)), hm2, p2, fun b hb => ?_, fun b hb hm' => ?_, by simp, t2.down hX1.out hbm.out⟩ x3
                  · rcases b2 b hb with h | h
                    · exact hbm.out b h
                    · have := hX1.out.size; omega
                  · rcases b2 b hm' with h | h
                    · exact p3 b hb h
                    · have := K.w.low p1 b hb; omega)
                have hA1h := Lib.hid hA1
                have hm1h := Lib.hid hm1
                clear hT p1 p2 p3 hA1 hm1 c1 c2 c3 c4 c5 c6
                go_wp2_with fail
                refine (hdm.out W hm1h.out).mono ?_
                rintro e W2 ⟨B, z2, Sm2, rfl, hB, _, hm2, t2, b2⟩
                have hA2 := hA1h.out.ts t2 (fun b o e hne hb => hA1m b o e hne hb)
                have hsm := Lib.hid (sameM_any A1 B no z1 z2 out W2 hA2 hB hno.out hnob)
                have hf2 := Lib.hid (fun (W3 : World) (x3 : Ext W2 W3) => hfin.out W2 W3 Sm2 hm2 t2 b2 x3)
                clear hA2 hB hm2 t2 b2 hA1m
                go_wp2_with fail
                refine hsm.out.mono ?_
                rintro e W3 ⟨rfl, x3⟩
                go_wp2_with fail
                go_meet
                exact ⟨rfl, Lib.hid (hf2.out W3 x3)⟩
            · rw [if_neg (by decide)]
              refine softP_val 58 _ (by kernel_rfl) rfl rfl ?_
              intro a W hx hout hdep
              have ev6 : a.tmps[6]?.getD undef = .pointer (some ad) := by rw [← Array.getD_eq_getD_getElem?]; exact hout 6 (by show 6 ∉ [58, 59, 60, 61, 62, 63, 64, 65, 66, 67, 68, 69, 70, 71, 72, 73, 74, 75, 76, 77, 78, 79, 80, 81, 82, 83, 84]; decide)
              refine ⟨rfl, .pointer (some ad), W, ?_, rfl, Ext.refl _⟩
              simp [ev6, execOp, go_sem]
            · rw [if_neg (by decide)]
              refine softP_val 59 _ (by kernel_rfl) rfl rfl ?_
              intro a W hx hout hdep
              have ev1 : a.tmps[1]?.getD undef = .slice (some ⟨b, o, none⟩) n cap := by rw [← Array.getD_eq_getD_getElem?]; exact hout 1 (by show 1 ∉ [58, 59, 60, 61, 62, 63, 64, 65, 66, 67, 68, 69, 70, 71, 72, 73, 74, 75, 76, 77, 78, 79, 80, 81, 82, 83, 84]; decide)
              refine ⟨rfl, .slice (some ⟨b, o, none⟩) n cap, W, ?_, rfl, Ext.refl _⟩
              simp [ev1, execOp, go_sem]
            · rw [if_neg (by decide)]
              refine softP_val 60 _ (by kernel_rfl) rfl rfl ?_
              intro a W hx hout hdep
              have ev9 : a.tmps[9]?.getD undef = Vi (j : Int) := by rw [← Array.getD_eq_getD_getElem?]; exact hout 9 (by show 9 ∉ [58, 59, 60, 61, 62, 63, 64, 65, 66, 67, 68, 69, 70, 71, 72, 73, 74, 75, 76, 77, 78, 79, 80, 81, 82, 83, 84]; decide)
              refine ⟨rfl, Vi (j : Int), W, ?_, rfl, Ext.refl _⟩
              simp [ev9, execOp, go_sem]
            · rw [if_neg (by decide)]
              refine softP_val 61 _ (by kernel_rfl) rfl rfl ?_
              intro a W hx hout hdep
              have ev59 : a.tmps[59]?.getD undef = .slice (some ⟨b, o, none⟩) n cap := by rw [← Array.getD_eq_getD_getElem?]; exact (hdep ⟨1, .data⟩ (by simp) rfl 59 _ rfl).1
              have ev60 : a.tmps[60]?.getD undef = Vi (j : Int) := by rw [← Array.getD_eq_getD_getElem?]; exact (hdep ⟨2, .data⟩ (by simp) rfl 60 _ rfl).1
              refine ⟨rfl, .pointer (some ⟨b, o + j * 7, none⟩), W, ?_, rfl, Ext.refl _⟩
              simp [ev59, ev60, hi1, hi2, execOp, go_sem]
            · rw [if_neg (by decide)]
              refine softP_val 62 _ (by kernel_rfl) rfl rfl ?_
              intro a W hx hout hdep
              have ev61 : a.tmps[61]?.getD undef = .pointer (some ⟨b, o + j * 7, none⟩) := by rw [← Array.getD_eq_getD_getElem?]; exact (hdep ⟨3, .data⟩ (by simp) rfl 61 _ rfl).1
              refine ⟨rfl, .pointer (some ⟨b, o + j * 7 + 1, none⟩), W, ?_, rfl, Ext.refl _⟩
              simp [ev61, execOp, go_sem]
            · rw [if_neg (by decide)]
              refine softP_val 63 _ (by kernel_rfl) rfl rfl ?_
              intro a W hx hout hdep
              have ev62 : a.tmps[62]?.getD undef = .pointer (some ⟨b, o + j * 7 + 1, none⟩) := by rw [← Array.getD_eq_getD_getElem?]; exact (hdep ⟨4, .data⟩ (by simp) rfl 62 _ rfl).1
              refine ⟨rfl, .pointer (some ⟨b, o + j * 7 + 1, none⟩), W, ?_, rfl, Ext.refl _⟩
              simp [ev62, execOp, go_sem]
            · rw [if_neg (by decide)]
              refine softP_val 64 _ (by kernel_rfl) rfl rfl ?_
              intro a W hx hout hdep
              have ev63 : a.tmps[63]?.getD undef = .pointer (some ⟨b, o + j * 7 + 1, none⟩) := by rw [← Array.getD_eq_getD_getElem?]; exact (hdep ⟨5, .data⟩ (by simp) rfl 63 _ rfl).1
              have q0 := hx.cell c1 hbS
              refine ⟨rfl, Vi x.v, W, ?_, rfl, Ext.refl _⟩
              simp [ev63, q0, execOp, go_sem]
            · rw [if_neg (by decide)]
              refine softP_val 65 _ (by kernel_rfl) rfl rfl ?_
              intro a W hx hout hdep
              have ev1 : a.tmps[1]?.getD undef = .slice (some ⟨b, o, none⟩) n cap := by rw [← Array.getD_eq_getD_getElem?]; exact hout 1 (by show 1 ∉ [58, 59, 60, 61, 62, 63, 64, 65, 66, 67, 68, 69, 70, 71, 72, 73, 74, 75, 76, 77, 78, 79, 80, 81, 82, 83, 84]; decide)
              refine ⟨rfl, .slice (some ⟨b, o, none⟩) n cap, W, ?_, rfl, Ext.refl _⟩
              simp [ev1, execOp, go_sem]
            · rw [if_neg (by decide)]
              refine softP_val 66 _ (by kernel_rfl) rfl rfl ?_
              intro a W hx hout hdep
              have ev9 : a.tmps[9]?.getD undef = Vi (j : Int) := by rw [← Array.getD_eq_getD_getElem?]; exact hout 9 (by show 9 ∉ [58, 59, 60, 61, 62, 63, 64, 65, 66, 67, 68, 69, 70, 71, 72, 73, 74, 75, 76, 77, 78, 79, 80, 81, 82, 83, 84]; decide)
              refine ⟨rfl, Vi (j : Int), W, ?_, rfl, Ext.refl _⟩
              simp [ev9, execOp, go_sem]
            · rw [if_neg (by decide)]
              refine softP_val 67 _ (by kernel_rfl) rfl rfl ?_
              intro a W hx hout hdep
              have ev65 : a.tmps[65]?.getD undef = .slice (some ⟨b, o, none⟩) n cap := by rw [← Array.getD_eq_getD_getElem?]; exact (hdep ⟨7, .data⟩ (by simp) rfl 65 _ rfl).1
              have ev66 : a.tmps[66]?.getD undef = Vi (j : Int) := by rw [← Array.getD_eq_getD_getElem?]; exact (hdep ⟨8, .data⟩ (by simp) rfl 66 _ rfl).1
              refine ⟨rfl, .pointer (some ⟨b, o + j * 7, none⟩), W, ?_, rfl, Ext.refl _⟩
              simp [ev65, ev66, hi1, hi2, execOp, go_sem]
            · rw [if_neg (by decide)]
              refine softP_val 68 _ (by kernel_rfl) rfl rfl ?_
              intro a W hx hout hdep
              have ev67 : a.tmps[67]?.getD undef = .pointer (some ⟨b, o + j * 7, none⟩) := by rw [← Array.getD_eq_getD_getElem?]; exact (hdep ⟨9, .data⟩ (by simp) rfl 67 _ rfl).1
              refine ⟨rfl, .pointer (some ⟨b, o + j * 7 + 1, none⟩), W, ?_, rfl, Ext.refl _⟩
              simp [ev67, execOp, go_sem]
            · rw [if_neg (by decide)]
              refine softP_val 69 _ (by kernel_rfl) rfl rfl ?_
              intro a W hx hout hdep
              have ev68 : a.tmps[68]?.getD undef = .pointer (some ⟨b, o + j * 7 + 1, none⟩) := by rw [← Array.getD_eq_getD_getElem?]; exact (hdep ⟨10, .data⟩ (by simp) rfl 68 _ rfl).1
              refine ⟨rfl, .pointer (some ⟨b, o + j * 7 + 1 + 2, none⟩), W, ?_, rfl, Ext.refl _⟩
              simp [ev68, execOp, go_sem]
            · rw [if_neg (by decide)]
              refine softP_val 70 _ (by kernel_rfl) rfl rfl ?_
              intro a W hx hout hdep
              have ev69 : a.tmps[69]?.getD undef = .pointer (some ⟨b, o + j * 7 + 1 + 2, none⟩) := by rw [← Array.getD_eq_getD_getElem?]; exact (hdep ⟨11, .data⟩ (by simp) rfl 69 _ rfl).1
              have q0 := hx.cell c3 hbS
              refine ⟨rfl, Vs x.t, W, ?_, rfl, Ext.refl _⟩
              simp [ev69, q0, execOp, go_sem]
            · rw [if_pos rfl]
              refine softC_call 71 _ (by kernel_rfl) rfl rfl ?_
              intro a W hx hpre hout hdep
              have ev58 : a.tmps[58]?.getD undef = .pointer (some ad) := by rw [← Array.getD_eq_getD_getElem?]; exact (hdep ⟨0, .data⟩ (by simp) rfl 58 _ rfl).1
              have ev64 : a.tmps[64]?.getD undef = Vi x.v := by rw [← Array.getD_eq_getD_getElem?]; exact (hdep ⟨6, .data⟩ (by simp) rfl 64 _ rfl).1
              have ev70 : a.tmps[70]?.getD undef = Vs x.t := by rw [← Array.getD_eq_getD_getElem?]; exact (hdep ⟨12, .data⟩ (by simp) rfl 70 _ rfl).1
              refine ⟨rfl, 10, #[.pointer (some ad), Vi x.v, Vs x.t], ?_, ?_⟩
              · simp [ev58, ev64, ev70, execOp, go_sem]
              · refine (hdr.out W hpre).mono ?_
                rintro e W' ⟨A, c, S2, rfl, h1, h2, h3, h4, h5⟩
                refine ⟨_, rfl, ⟨A, c, rfl, h1, fun b o e hne hb => ?_⟩, h4, S2, h3, fun b hb => ?_, fun b hb hm => ?_⟩
                · rcases h2 b o e hne with h | h
                  · exact hdj.out b h hb
                  · have := hml.out b hb; have := hx.size; omega
                · rcases h5 b hb with h | h
                  · exact hab.out b h
                  · have := hxw.out.size; have := hx.size; omega
                · rcases h5 b hb with h | h
                  · exact hdj.out b h hm
                  · have := hml.out b hm; have := hx.size; omega
            · rw [if_neg (by decide)]
              refine softP_val 72 _ (by kernel_rfl) rfl rfl ?_
              intro a W hx hout hdep
              have ev8 : a.tmps[8]?.getD undef = .pointer (some ⟨pm, 0, none⟩) := by rw [← Array.getD_eq_getD_getElem?]; exact hout 8 (by show 8 ∉ [58, 59, 60, 61, 62, 63, 64, 65, 66, 67, 68, 69, 70, 71, 72, 73, 74, 75, 76, 77, 78, 79, 80, 81, 82, 83, 84]; decide)
              refine ⟨rfl, .pointer (some ⟨pm, 0, none⟩), W, ?_, rfl, Ext.refl _⟩
              simp [ev8, execOp, go_sem]
            · rw [if_neg (by decide)]
              refine softP_val 73 _ (by kernel_rfl) rfl rfl ?_
              intro a W hx hout hdep
              have ev1 : a.tmps[1]?.getD undef = .slice (some ⟨b, o, none⟩) n cap := by rw [← Array.getD_eq_getD_getElem?]; exact hout 1 (by show 1 ∉ [58, 59, 60, 61, 62, 63, 64, 65, 66, 67, 68, 69, 70, 71, 72, 73, 74, 75, 76, 77, 78, 79, 80, 81, 82, 83, 84]; decide)
              refine ⟨rfl, .slice (some ⟨b, o, none⟩) n cap, W, ?_, rfl, Ext.refl _⟩
              simp [ev1, execOp, go_sem]
            · rw [if_neg (by decide)]
              refine softP_val 74 _ (by kernel_rfl) rfl rfl ?_
              intro a W hx hout hdep
              have ev9 : a.tmps[9]?.getD undef = Vi (j : Int) := by rw [← Array.getD_eq_getD_getElem?]; exact hout 9 (by show 9 ∉ [58, 59, 60, 61, 62, 63, 64, 65, 66, 67, 68, 69, 70, 71, 72, 73, 74, 75, 76, 77, 78, 79, 80, 81, 82, 83, 84]; decide)
              refine ⟨rfl, Vi (j : Int), W, ?_, rfl, Ext.refl _⟩
              simp [ev9, execOp, go_sem]
            · rw [if_neg (by decide)]
              refine softP_val 75 _ (by kernel_rfl) rfl rfl ?_
              intro a W hx hout hdep
              have ev73 : a.tmps[73]?.getD undef = .slice (some ⟨b, o, none⟩) n cap := by rw [← Array.getD_eq_getD_getElem?]; exact (hdep ⟨15, .data⟩ (by simp) rfl 73 _ rfl).1
              have ev74 : a.tmps[74]?.getD undef = Vi (j : Int) := by rw [← Array.getD_eq_getD_getElem?]; exact (hdep ⟨16, .data⟩ (by simp) rfl 74 _ rfl).1
              refine ⟨rfl, .pointer (some ⟨b, o + j * 7, none⟩), W, ?_, rfl, Ext.refl _⟩
              simp [ev73, ev74, hi1, hi2, execOp, go_sem]
            · rw [if_neg (by decide)]
              refine softP_val 76 _ (by kernel_rfl) rfl rfl ?_
              intro a W hx hout hdep
              have ev75 : a.tmps[75]?.getD undef = .pointer (some ⟨b, o + j * 7, none⟩) := by rw [← Array.getD_eq_getD_getElem?]; exact (hdep ⟨17, .data⟩ (by simp) rfl 75 _ rfl).1
              refine ⟨rfl, .pointer (some ⟨b, o + j * 7 + 1, none⟩), W, ?_, rfl, Ext.refl _⟩
              simp [ev75, execOp, go_sem]
            · rw [if_neg (by decide)]
              refine softP_val 77 _ (by kernel_rfl) rfl rfl ?_
              intro a W hx hout hdep
              have ev76 : a.tmps[76]?.getD undef = .pointer (some ⟨b, o + j * 7 + 1, none⟩) := by rw [← Array.getD_eq_getD_getElem?]; exact (hdep ⟨18, .data⟩ (by simp) rfl 76 _ rfl).1
              refine ⟨rfl, .pointer (some ⟨b, o + j * 7 + 1, none⟩), W, ?_, rfl, Ext.refl _⟩
              simp [ev76, execOp, go_sem]
            · rw [if_neg (by decide)]
              refine softP_val 78 _ (by kernel_rfl) rfl rfl ?_
              intro a W hx hout hdep
              have ev77 : a.tmps[77]?.getD undef = .pointer (some ⟨b, o + j * 7 + 1, none⟩) := by rw [← Array.getD_eq_getD_getElem?]; exact (hdep ⟨19, .data⟩ (by simp) rfl 77 _ rfl).1
              have q0 := hx.cell c1 hbS
              refine ⟨rfl, Vi x.v, W, ?_, rfl, Ext.refl _⟩
              simp [ev77, q0, execOp, go_sem]
            · rw [if_neg (by decide)]
              refine softP_val 79 _ (by kernel_rfl) rfl rfl ?_
              intro a W hx hout hdep
              have ev1 : a.tmps[1]?.getD undef = .slice (some ⟨b, o, none⟩) n cap := by rw [← Array.getD_eq_getD_getElem?]; exact hout 1 (by show 1 ∉ [58, 59, 60, 61, 62, 63, 64, 65, 66, 67, 68, 69, 70, 71, 72, 73, 74, 75, 76, 77, 78, 79, 80, 81, 82, 83, 84]; decide)
              refine ⟨rfl, .slice (some ⟨b, o, none⟩) n cap, W, ?_, rfl, Ext.refl _⟩
              simp [ev1, execOp, go_sem]
            · rw [if_neg (by decide)]
              refine softP_val 80 _ (by kernel_rfl) rfl rfl ?_
              intro a W hx hout hdep
              have ev9 : a.tmps[9]?.getD undef = Vi (j : Int) := by rw [← Array.getD_eq_getD_getElem?]; exact hout 9 (by show 9 ∉ [58, 59, 60, 61, 62, 63, 64, 65, 66, 67, 68, 69, 70, 71, 72, 73, 74, 75, 76, 77, 78, 79, 80, 81, 82, 83, 84]; decide)
              refine ⟨rfl, Vi (j : Int), W, ?_, rfl, Ext.refl _⟩
              simp [ev9, execOp, go_sem]
            · rw [if_neg (by decide)]
              refine softP_val 81 _ (by kernel_rfl) rfl rfl ?_
              intro a W hx hout hdep
              have ev79 : a.tmps[79]?.getD undef = .slice (some ⟨b, o, none⟩) n cap := by rw [← Array.getD_eq_getD_getElem?]; exact (hdep ⟨21, .data⟩ (by simp) rfl 79 _ rfl).1
              have ev80 : a.tmps[80]?.getD undef = Vi (j : Int) := by rw [← Array.getD_eq_getD_getElem?]; exact (hdep ⟨22, .data⟩ (by simp) rfl 80 _ rfl).1
              refine ⟨rfl, .pointer (some ⟨b, o + j * 7, none⟩), W, ?_, rfl, Ext.refl _⟩
              simp [ev79, ev80, hi1, hi2, execOp, go_sem]
            · rw [if_neg (by decide)]
              refine softP_val 82 _ (by kernel_rfl) rfl rfl ?_
              intro a W hx hout hdep
              have ev81 : a.tmps[81]?.getD undef = .pointer (some ⟨b, o + j * 7, none⟩) := by rw [← Array.getD_eq_getD_getElem?]; exact (hdep ⟨23, .data⟩ (by simp) rfl 81 _ rfl).1
              refine ⟨rfl, .pointer (some ⟨b, o + j * 7 + 1, none⟩), W, ?_, rfl, Ext.refl _⟩
              simp [ev81, execOp, go_sem]
            · rw [if_neg (by decide)]
              refine softP_val 83 _ (by kernel_rfl) rfl rfl ?_
              intro a W hx hout hdep
              have ev82 : a.tmps[82]?.getD undef = .pointer (some ⟨b, o + j * 7 + 1, none⟩) := by rw [← Array.getD_eq_getD_getElem?]; exact (hdep ⟨24, .data⟩ (by simp) rfl 82 _ rfl).1
              refine ⟨rfl, .pointer (some ⟨b, o + j * 7 + 1 + 2, none⟩), W, ?_, rfl, Ext.refl _⟩
              simp [ev82, execOp, go_sem]
            · rw [if_neg (by decide)]
              refine softP_val 84 _ (by kernel_rfl) rfl rfl ?_
              intro a W hx hout hdep
              have ev83 : a.tmps[83]?.getD undef = .pointer (some ⟨b, o + j * 7 + 1 + 2, none⟩) := by rw [← Array.getD_eq_getD_getElem?]; exact (hdep ⟨25, .data⟩ (by simp) rfl 83 _ rfl).1
              have q0 := hx.cell c3 hbS
              refine ⟨rfl, Vs x.t, W, ?_, rfl, Ext.refl _⟩
              simp [ev83, q0, execOp, go_sem]
          · have hrz : ((r : Int) == 2) = false := by rw [beq_eq_false_iff_ne]; omega
            rw [hrz]
            go_wp2_with fail
            refine wp_soft_frameX (TSb Sq) 6 (fun W => K.Q W (.pointer (some ad)) k l g Sq) (fun W => ∃ S2, K.Q W (.pointer (some ad)) k (nxL k l g x) (nxG k l g) S2 ∧ AbQ w S2 ∧ ∀ b, S2 b → ¬ Sm b) 13 (sbpP b o n cap j ad pm k x l g) (by kernel_rfl) (by kernel_rfl) (fun _ _ _ h h2 => TSb.trans h h2 (fun _ _ e => e)) (fun _ _ h => TSb.ext h) (fun _ _ h hh => K.w.ext hh h) (fun _ _ h hh => by obtain ⟨S2, p1, p2, p3⟩ := hh; exact ⟨S2, K.w.ext p1 h, p2, p3⟩) (by omega) hq.out rfl (by show List.Nodup [88, 89, 90, 91, 92, 93, 94, 95, 96, 97, 98, 99, 100]; decide) (by show ∀ d ∈ [88, 89, 90, 91, 92, 93, 94, 95, 96, 97, 98, 99, 100], d < 112; decide) (sbpP_mono b o n cap j ad pm k x l g Sq) ?_ ⟨?_, ?_, ?_, ?_, ?_, ?_, ?_, ?_, ?_, ?_, ?_, ?_, ?_, trivial⟩
            · intro W vs hT hR hPost
              match vs, hT with
              | [v0, v1, v2, v3, v4, v5, v6, v7, v8, v9, v10, v11, v12], ⟨e0, e1, e2, e3, e4, e5, e6, e7, e8, e9, e10, e11, e12, _⟩ =>
                simp only [sbpP, List.map_cons, List.map_nil, List.zip_cons_cons, List.zip_nil_left, putAll, List.setIfInBounds_toArray, List.set_cons_zero, List.set_cons_succ, List.drop_succ_cons, List.drop_zero]
                simp only at e0 e1 e2 e3 e4 e5 e6 e7 e8 e9 e10 e11 e12
                rw [e0, e1, e2, e3, e4, e5, e6, e7, e8, e9, e10, e11, e12]
                clear e0 e1 e2 e3 e4 e5 e6 e7 e8 e9 e10 e11 e12 v0 v1 v2 v3 v4 v5 v6 v7 v8 v9 v10 v11 v12
                replace hR := Lib.hid hR
                obtain ⟨S2, p1, p2, p3⟩ := hPost
                have hm1 := rf_w.far hm.out hR.out.size (fun b hb => hR.out.block b (hml.out b hb) (fun e => hdj.out b e hb))
                have hX1 := Lib.hid (hR.out.down hxw.out hab.out)
                have hnx := Lib.hid (nxL_len k l g x)
                have hfin := Lib.hid (fun (W2 : World) (Sm2 : Nat → Prop) (hm2 : RfQ W2 (.pointer (some ⟨pm, 0, none⟩)) k (nxL k l g x) (nxG k l g) Sm2) (t2 : TSb Sm W W2) (b2 : ∀ b, Sm2 b → Sm b ∨ W.heap.size ≤ b) => show PlQ K w ad pm k (j + 1) W2 from by
                  refine ⟨nxL k l g x, nxG k l g, S2, Sm2, K.w.far p1 t2.size (fun b hb => t2.block b (K.w.low p1 b hb) (p3 b hb)), hm2, p2, fun b hb => ?_, fun b hb hm' => ?_, by have := hnx.out; omega, t2.down hX1.out hbm.out⟩
                  · rcases b2 b hb with h | h
                    · exact hbm.out b h
                    · have := hX1.out.size; omega
                  · rcases b2 b hm' with h | h
                    · exact p3 b hb h
                    · have := K.w.low p1 b hb; omega)
                have hps := Lib.hid (pushRf x hm1 hll.out hkk)
                have hbb : (okP k l g != okP k l g) = false := by simp
                clear hT p1 p2 p3 hm1 c1 c2 c3 c4 c5 c6
                go_wp2_with fail
                refine hps.out.mono ?_
                rintro e W2 ⟨rfl, Sm2, hm2, t2, b2⟩
                have hf2 := Lib.hid (hfin.out W2 Sm2 hm2 t2 b2)
                clear hm2 t2 b2
                generalize okP k l g = bb at *
                go_wp2_with fail
                go_meet
                exact ⟨rfl, hf2⟩
            · rw [if_neg (by decide)]
              refine softP_val 88 _ (by kernel_rfl) rfl rfl ?_
              intro a W hx hout hdep
              have ev6 : a.tmps[6]?.getD undef = .pointer (some ad) := by rw [← Array.getD_eq_getD_getElem?]; exact hout 6 (by show 6 ∉ [88, 89, 90, 91, 92, 93, 94, 95, 96, 97, 98, 99, 100]; decide)
              refine ⟨rfl, .pointer (some ad), W, ?_, rfl, Ext.refl _⟩
              simp [ev6, execOp, go_sem]
            · rw [if_neg (by decide)]
              refine softP_val 89 _ (by kernel_rfl) rfl rfl ?_
              intro a W hx hout hdep
              have ev1 : a.tmps[1]?.getD undef = .slice (some ⟨b, o, none⟩) n cap := by rw [← Array.getD_eq_getD_getElem?]; exact hout 1 (by show 1 ∉ [88, 89, 90, 91, 92, 93, 94, 95, 96, 97, 98, 99, 100]; decide)
              refine ⟨rfl, .slice (some ⟨b, o, none⟩) n cap, W, ?_, rfl, Ext.refl _⟩
              simp [ev1, execOp, go_sem]
            · rw [if_neg (by decide)]
              refine softP_val 90 _ (by kernel_rfl) rfl rfl ?_
              intro a W hx hout hdep
              have ev9 : a.tmps[9]?.getD undef = Vi (j : Int) := by rw [← Array.getD_eq_getD_getElem?]; exact hout 9 (by show 9 ∉ [88, 89, 90, 91, 92, 93, 94, 95, 96, 97, 98, 99, 100]; decide)
              refine ⟨rfl, Vi (j : Int), W, ?_, rfl, Ext.refl _⟩
              simp [ev9, execOp, go_sem]
            · rw [if_neg (by decide)]
              refine softP_val 91 _ (by kernel_rfl) rfl rfl ?_
              intro a W hx hout hdep
              have ev89 : a.tmps[89]?.getD undef = .slice (some ⟨b, o, none⟩) n cap := by rw [← Array.getD_eq_getD_getElem?]; exact (hdep ⟨1, .data⟩ (by simp) rfl 89 _ rfl).1
              have ev90 : a.tmps[90]?.getD undef = Vi (j : Int) := by rw [← Array.getD_eq_getD_getElem?]; exact (hdep ⟨2, .data⟩ (by simp) rfl 90 _ rfl).1
              refine ⟨rfl, .pointer (some ⟨b, o + j * 7, none⟩), W, ?_, rfl, Ext.refl _⟩
              simp [ev89, ev90, hi1, hi2, execOp, go_sem]
            · rw [if_neg (by decide)]
              refine softP_val 92 _ (by kernel_rfl) rfl rfl ?_
              intro a W hx hout hdep
              have ev91 : a.tmps[91]?.getD undef = .pointer (some ⟨b, o + j * 7, none⟩) := by rw [← Array.getD_eq_getD_getElem?]; exact (hdep ⟨3, .data⟩ (by simp) rfl 91 _ rfl).1
              refine ⟨rfl, .pointer (some ⟨b, o + j * 7 + 1, none⟩), W, ?_, rfl, Ext.refl _⟩
              simp [ev91, execOp, go_sem]
            · rw [if_neg (by decide)]
              refine softP_val 93 _ (by kernel_rfl) rfl rfl ?_
              intro a W hx hout hdep
              have ev92 : a.tmps[92]?.getD undef = .pointer (some ⟨b, o + j * 7 + 1, none⟩) := by rw [← Array.getD_eq_getD_getElem?]; exact (hdep ⟨4, .data⟩ (by simp) rfl 92 _ rfl).1
              have q0 := hx.cell c1 hbS
              have q1 := hx.cell c2 hbS
              have q2 := hx.cell c3 hbS
              have q3 := hx.cell c4 hbS
              have q4 := hx.cell c5 hbS
              have q5 := hx.cell c6 hbS
              refine ⟨rfl, msv x, W, ?_, rfl, Ext.refl _⟩
              simp [ev92, q0, q1, q2, q3, q4, q5, execOp, go_sem]
            · rw [if_pos rfl]
              refine softC_call 94 _ (by kernel_rfl) rfl rfl ?_
              intro a W hx hpre hout hdep
              have ev88 : a.tmps[88]?.getD undef = .pointer (some ad) := by rw [← Array.getD_eq_getD_getElem?]; exact (hdep ⟨0, .data⟩ (by simp) rfl 88 _ rfl).1
              have ev93 : a.tmps[93]?.getD undef = msv x := by rw [← Array.getD_eq_getD_getElem?]; exact (hdep ⟨5, .data⟩ (by simp) rfl 93 _ rfl).1
              refine ⟨rfl, 12, #[.pointer (some ad), msv x], ?_, ?_⟩
              · simp [ev88, ev93, execOp, go_sem]
              · refine (K.w.push x hsx.out hpre hll.out hkk).mono ?_
                rintro e W' ⟨rfl, S2, h3, h4, h5⟩
                refine ⟨_, rfl, rfl, h4, S2, h3, fun b hb => ?_, fun b hb hm => ?_⟩
                · rcases h5 b hb with h | h
                  · exact hab.out b h
                  · have := hxw.out.size; have := hx.size; omega
                · rcases h5 b hb with h | h
                  · exact hdj.out b h hm
                  · have := hml.out b hm; have := hx.size; omega
            · rw [if_neg (by decide)]
              refine softP_val 95 _ (by kernel_rfl) rfl rfl ?_
              intro a W hx hout hdep
              have ev8 : a.tmps[8]?.getD undef = .pointer (some ⟨pm, 0, none⟩) := by rw [← Array.getD_eq_getD_getElem?]; exact hout 8 (by show 8 ∉ [88, 89, 90, 91, 92, 93, 94, 95, 96, 97, 98, 99, 100]; decide)
              refine ⟨rfl, .pointer (some ⟨pm, 0, none⟩), W, ?_, rfl, Ext.refl _⟩
              simp [ev8, execOp, go_sem]
            · rw [if_neg (by decide)]
              refine softP_val 96 _ (by kernel_rfl) rfl rfl ?_
              intro a W hx hout hdep
              have ev1 : a.tmps[1]?.getD undef = .slice (some ⟨b, o, none⟩) n cap := by rw [← Array.getD_eq_getD_getElem?]; exact hout 1 (by show 1 ∉ [88, 89, 90, 91, 92, 93, 94, 95, 96, 97, 98, 99, 100]; decide)
              refine ⟨rfl, .slice (some ⟨b, o, none⟩) n cap, W, ?_, rfl, Ext.refl _⟩
              simp [ev1, execOp, go_sem]
            · rw [if_neg (by decide)]
              refine softP_val 97 _ (by kernel_rfl) rfl rfl ?_
              intro a W hx hout hdep
              have ev9 : a.tmps[9]?.getD undef = Vi (j : Int) := by rw [← Array.getD_eq_getD_getElem?]; exact hout 9 (by show 9 ∉ [88, 89, 90, 91, 92, 93, 94, 95, 96, 97, 98, 99, 100]; decide)
              refine ⟨rfl, Vi (j : Int), W, ?_, rfl, Ext.refl _⟩
              simp [ev9, execOp, go_sem]
            · rw [if_neg (by decide)]
              refine softP_val 98 _ (by kernel_rfl) rfl rfl ?_
              intro a W hx hout hdep
              have ev96 : a.tmps[96]?.getD undef = .slice (some ⟨b, o, none⟩) n cap := by rw [← Array.getD_eq_getD_getElem?]; exact (hdep ⟨8, .data⟩ (by simp) rfl 96 _ rfl).1
              have ev97 : a.tmps[97]?.getD undef = Vi (j : Int) := by rw [← Array.getD_eq_getD_getElem?]; exact (hdep ⟨9, .data⟩ (by simp) rfl 97 _ rfl).1
              refine ⟨rfl, .pointer (some ⟨b, o + j * 7, none⟩), W, ?_, rfl, Ext.refl _⟩
              simp [ev96, ev97, hi1, hi2, execOp, go_sem]
            · rw [if_neg (by decide)]
              refine softP_val 99 _ (by kernel_rfl) rfl rfl ?_
              intro a W hx hout hdep
              have ev98 : a.tmps[98]?.getD undef = .pointer (some ⟨b, o + j * 7, none⟩) := by rw [← Array.getD_eq_getD_getElem?]; exact (hdep ⟨10, .data⟩ (by simp) rfl 98 _ rfl).1
              refine ⟨rfl, .pointer (some ⟨b, o + j * 7 + 1, none⟩), W, ?_, rfl, Ext.refl _⟩
              simp [ev98, execOp, go_sem]
            · rw [if_neg (by decide)]
              refine softP_val 100 _ (by kernel_rfl) rfl rfl ?_
              intro a W hx hout hdep
              have ev99 : a.tmps[99]?.getD undef = .pointer (some ⟨b, o + j * 7 + 1, none⟩) := by rw [← Array.getD_eq_getD_getElem?]; exact (hdep ⟨11, .data⟩ (by simp) rfl 99 _ rfl).1
              have q0 := hx.cell c1 hbS
              have q1 := hx.cell c2 hbS
              have q2 := hx.cell c3 hbS
              have q3 := hx.cell c4 hbS
              have q4 := hx.cell c5 hbS
              have q5 := hx.cell c6 hbS
              refine ⟨rfl, msv x, W, ?_, rfl, Ext.refl _⟩
              simp [ev99, q0, q1, q2, q3, q4, q5, execOp, go_sem]
        case rest =>
          obtain ⟨rfl, hP2⟩ := hcut
          obtain ⟨l2, g2, Sq2, Sm2, hq2, hm2, _, _, _, hl2, _⟩ := hP2.out
          obtain ⟨pm', v2, w02, ep, hbx2, ho2, _, _, _⟩ := hm2
          injection ep with ep
          injection ep with ep
          injection ep with ep _ _
          subst ep
          obtain ⟨R2, c2', hv2, _, _⟩ := ho2.open
          subst hv2
          have n1 := cell_regrown hbx2.cells.1
          have hlen := Lib.hid (fun (W : World) (hW : Ext wc W) => K.len (K.w.ext hq2 hW) (by omega))
          clear hq2 hbx2 ho2 hq hm c1 c2 c3 c4 c5 c6
          generalize l2.length = nl at *
          have hnn : ((nl : Int) != (nl : Int)) = false := by simp
          go_wp2_with fail
          refine wp_region_quiet_below (by kernel_rfl) (by kernel_rfl) ?_
          repeat go_big_quiet_step ((with_reducible exact Calls.in_regrown (hlen.out _ (Ext.regrown _ _ _))))
          refine wpQuiet_nil ?_
          intro _ hw'
          obtain ⟨⟨dq, osq⟩, hw''⟩ := hw'
          subst hw''
          go_wp2
          go_roundw
          case rel => exact ⟨j + 1, by omega, by go_num, Lib.hid (hP2.out.ext (Ext.regrown _ _ _))⟩
          case measure => simp [intOf]; omega
      · obtain ⟨_, _, _, _, _, _, _, _, _, _, hxw⟩ := hP.out
        go_wp2
        go_ret
        exact ⟨rfl, hxw⟩
  · obtain rfl := h2 hrm
    rw [hz1]
    clear h1 h2 hnew hz0 hz1
    by_cases hlo : room < 1
    · go_wp2_with fail
      refine (hcode.out _).mono ?_
      rintro e w3 ⟨rfl, rfl⟩
      go_wp2
      go_ret
      exact ⟨rfl, x2⟩
    · have hhi : 1000 < room := by omega
      go_wp2_with fail
      refine (hcode.out _).mono ?_
      rintro e w3 ⟨rfl, rfl⟩
      go_wp2
      go_ret
      exact ⟨rfl, x2⟩

end Go.Proofs.Ytfcoidpkhggnpaa
