/-
  Several texts of this seat in one file, each in the namespace again; no claim stands here.
-/
import Derived.Deep.DeepCutAuto
import Derived.Deep.CutBlock
import Derived.Deep.Cut
import Derived.Deep.SlicePairs
import Derived.Lay
import Derived.ChangeMaps5
import Derived.Test.YtdpmhhfpjpdfiaaCT
import Derived.Test.YtdpmhhfpjpdfiaaCL
import Derived.Test.YtdpmhhfpjpdfiaaCR
import Derived.Test.YtdpmhhfpjpdfiaaCN
import Derived.Test.YtdpmhhfpjpdfiaaCM
import Derived.Test.YtdpmhhfpjpdfiaaTKnown
namespace Go.Proofs.Ytdpmhhfpjpdfiaa
open Go.ChangeShapes Go.WideShapes Go.ChangeAt Go.RowKit Go.Sort
set_option linter.unusedVariables false
set_option linter.unusedSimpArgs false
attribute [local go_sem] World.cell?_alloc_some

def RetTk (w : World) (t : List It × List It × List (Int × Int)) (e : Ending) (w' : World) : Prop :=
  ∃ (Aa : Option Addr) (ca : Nat) (Ab : Option Addr) (cb : Nat) (A : Option Addr) (c : Nat), e = .returned (.tuple #[.slice Aa t.1.length ca, .slice Ab t.2.1.length cb, .slice A t.2.2.length c]) ∧ t.1.length ≤ ca ∧ t.2.1.length ≤ cb ∧ ItS w' Aa t.1 ∧ ItS w' Ab t.2.1 ∧ Vec w' A t.2.2 ∧ Ext w w'

theorem Vec.grown {W W' : World} {A : Option Addr} {V : List (Int × Int)} {row : Option Nat} (h : Vec W A V) (hg : W.grownBy W' row) (hne : ∀ k, row = some k → ∀ b o, A = some ⟨b, o, none⟩ → b ≠ k) : Vec W' A V := fun h0 => by
  obtain ⟨b, o, e, hc⟩ := h h0
  refine ⟨b, o, e, fun j u hu => ?_⟩
  have := hc j u hu
  rw [World.cell?_of_block (w := W) (w' := W') (a := ⟨b, o + j, none⟩) (World.grownBy.block hg b (World.block_lt_of_cell? _ _ this) (fun e' => hne b e'.symm b o e rfl))]
  exact this
theorem Vec.low {W : World} {A : Option Addr} {V : List (Int × Int)} (h : Vec W A V) : V = [] ∨ ∀ b o, A = some ⟨b, o, none⟩ → b < W.heap.size := by
  cases V with
  | nil => exact .inl rfl
  | cons p V =>
    refine .inr fun b o e => ?_
    obtain ⟨b', o', e', hc⟩ := h (by simp [flat, encC])
    have := World.block_lt_of_cell? _ _ (hc 0 (Vu p.1) (by simp [flat, encC]))
    rw [e] at e'
    injection e' with e'
    injection e' with e1 _ _
    rw [e1]; exact this

def pdtS (A1 : Option Addr) (n1 c1 b o m cr k : Nat) (x : It) : SoftTab := [(44, fun z9 W => z9 = .slice A1 n1 c1),
  (45, fun z9 W => z9 = .slice (some ⟨b, o, none⟩) m cr),
  (46, fun z9 W => z9 = Vi (k : Int)),
  (47, fun z9 W => z9 = .pointer (some ⟨b, o + k * 7, none⟩)),
  (48, fun z9 W => z9 = .pointer (some ⟨b, o + k * 7, none⟩)),
  (49, fun z9 W => z9 = .pointer (some ⟨b, o + k * 7, none⟩)),
  (50, fun z9 W => z9 = Vu x.c),
  (51, fun z9 W => z9 = .slice (some ⟨b, o, none⟩) m cr),
  (52, fun z9 W => z9 = Vi (k : Int)),
  (53, fun z9 W => z9 = .pointer (some ⟨b, o + k * 7, none⟩)),
  (54, fun z9 W => z9 = .pointer (some ⟨b, o + k * 7, none⟩)),
  (55, fun z9 W => z9 = .pointer (some ⟨b, o + k * 7 + 1, none⟩)),
  (56, fun z9 W => z9 = Vu x.k),
  (57, fun z9 W => z9 = Vu (x.k + 1))]
theorem pdtS_mono (A1 : Option Addr) (n1 c1 b o m cr k : Nat) (x : It) (Rel : World → World → Prop) (hR : ∀ W W', Rel W W' → Ext W W') : SoftMonoR Rel (pdtS A1 n1 c1 b o m cr k x) := by
  intro p hp v W W' h hx
  simp only [pdtS, List.mem_cons, List.not_mem_nil, or_false] at hp
  rcases hp with rfl | rfl | rfl | rfl | rfl | rfl | rfl | rfl | rfl | rfl | rfl | rfl | rfl | rfl
  all_goals first
    | exact h
def pdtR (b o m cr k : Nat) (l : List It) (s0 : World) : SoftTab := [(59, fun z9 W => ∃ q, z9 = .slice (some ⟨q, 0, none⟩) 0 0 ∧ s0.heap.size ≤ q ∧ W.heap[q]? = some (.cells #[] 32 (0, 0))),
  (60, fun z9 W => z9 = .slice (some ⟨b, o, none⟩) m cr),
  (61, fun z9 W => z9 = Vi (k : Int)),
  (62, fun z9 W => z9 = .slice (some ⟨b, o, none⟩) k cr),
  (63, fun z9 W => ∃ q : Value, z9 = q ∧ OwnI s0 W q (l.take k)),
  (64, fun z9 W => z9 = .slice (some ⟨b, o, none⟩) m cr),
  (65, fun z9 W => z9 = Vi (k : Int)),
  (66, fun z9 W => z9 = Vi ((k : Int) + 1)),
  (67, fun z9 W => z9 = .slice (cutA (some ⟨b, o, none⟩) cr (k + 1) 7) (m - (k + 1)) (cr - (k + 1)))]
theorem pdtR_mono (b o m cr k : Nat) (l : List It) (s0 : World) (Rel : World → World → Prop) (hR : ∀ W W', Rel W W' → Ext W W') : SoftMonoR Rel (pdtR b o m cr k l s0) := by
  intro p hp v W W' h hx
  simp only [pdtR, List.mem_cons, List.not_mem_nil, or_false] at hp
  rcases hp with rfl | rfl | rfl | rfl | rfl | rfl | rfl | rfl | rfl
  all_goals first
    | exact h
    | (obtain ⟨q, h1, h2, h3⟩ := h
       exact ⟨q, h1, h2, by rw [RowKit.Below.block (hR _ _ hx) q (Array.getElem?_eq_some_iff.1 h3).1]; exact h3⟩)
    | (obtain ⟨q, h1, h2⟩ := h
       exact ⟨q, h1, h2.ext (hR _ _ hx)⟩)

def PtR (w : World) (T : List It × List It × List (Int × Int)) (g : Nat) (a r c : Value) (W : World) : Prop :=
  ∃ (q come : List It) (V : List (Int × Int)) (A : Option Addr) (n cap : Nat), a = .slice A n cap ∧ V.length = n ∧ Hid (Vec W A V) ∧ mayFrom 0 V = true ∧ n + q.length ≤ 1000 ∧ come.length + q.length ≤ 1000 ∧ Hid (OwnI w W r q) ∧ Hid (OwnI w W c come) ∧
    Hid (∀ k, c.ownBlock = some k → r.ownBlock ≠ some k ∧ (V = [] ∨ ∀ b o, A = some ⟨b, o, none⟩ → b ≠ k)) ∧ Hid (∀ x ∈ q, okW x) ∧ Hid ((come ++ (takR q.length V q).1, (takR q.length V q).2.1, (takR q.length V q).2.2) = T) ∧ q.length ≤ g ∧ Ext w W

theorem pt_app {w wc w3 : World} {o : Obj} {cv rv : Value} {l : List It} {V : List (Int × Int)} {A : Option Addr} (hro : OwnI w wc rv l) (hV : Vec wc A V) (hap : ∀ k, cv.ownBlock = some k → rv.ownBlock ≠ some k ∧ (V = [] ∨ ∀ b o, A = some ⟨b, o, none⟩ → b ≠ k)) (g3 : (wc.alloc o).grownBy w3 cv.ownBlock) : OwnI w w3 rv l ∧ Vec w3 A V := by
  refine ⟨(hro.ext ((Ext.refl wc).alloc o)).kept g3 ?_, ?_⟩
  · cases hr : rv.ownBlock with
    | none => exact .inl rfl
    | some k => exact .inr fun e => (hap k e.symm).1 hr
  · rcases Nat.eq_zero_or_pos V.length with h0 | h0
    · rw [List.length_eq_zero_iff.1 h0]; exact Vec.nil _ _
    · refine (hV.ext ((Ext.refl wc).alloc o)).grown g3 fun k hk b oo e => ?_
      rcases (hap k hk).2 with h | h
      · rw [h] at h0; simp at h0
      · exact h b oo e
theorem pt_cells {w : World} {b o k : Nat} {l : List It} {x : It} (h : ItS w (some ⟨b, o, none⟩) l) (hp : l[k]? = some x) : w.cell? ⟨b, o + k * 7, none⟩ = some (Vu x.c) ∧ w.cell? ⟨b, o + k * 7 + 1, none⟩ = some (Vu x.k) := by
  obtain ⟨hk, _⟩ := List.getElem?_eq_some_iff.1 hp
  obtain ⟨b', o', x', hA, hp', d⟩ := h.at (k := k) hk
  rw [hp] at hp'
  injection hp' with hp'
  subst hp'
  injection hA with hA
  injection hA with e1 e2 _
  subst e1
  subst e2
  exact ⟨d.c0, d.c1⟩
theorem ptr_next {w w3 w4 w7 : World} {T : List It × List It × List (Int × Int)} {V' : List (Int × Int)} {come l : List It} {x : It} {n1 k m : Nat} {v3 vC v7 : Value}
    (o3 : OwnI w w3 v3 (come ++ [x])) (x3 : Ext w w3) (oC : OwnG 42 2 w3 w4 vC V'.length (flat encC V')) (x4 : Ext w3 w4) (o7 : OwnI w4 w7 v7 (l.take k ++ l.drop (k + 1))) (x7 : Ext w4 w7) (hm : l.length = m) (hk : k < m) (hs1 : n1 + m ≤ 1000) (hs2 : come.length + m ≤ 1000)
    (hok : ∀ x ∈ l, okW x) (hset : mayFrom 0 V' = true ∧ V'.length ≤ n1 + 1)
    (hT : ((come ++ [x]) ++ (takR (l.take k ++ l.drop (k + 1)).length V' (l.take k ++ l.drop (k + 1))).1, (takR (l.take k ++ l.drop (k + 1)).length V' (l.take k ++ l.drop (k + 1))).2.1, (takR (l.take k ++ l.drop (k + 1)).length V' (l.take k ++ l.drop (k + 1))).2.2) = T) :
    PtR w T (l.take k ++ l.drop (k + 1)).length vC v7 v3 w7 := by
  have hlt := o3.lt
  have hltC := World.ownsRow.lt oC
  obtain ⟨A2, c2, rfl, hV2⟩ := Vec.own oC
  have hlen : (l.take k ++ l.drop (k + 1)).length + 1 = m := by rw [List.length_append, List.length_take, List.length_drop, hm]; omega
  have h2 := hset.2
  refine ⟨l.take k ++ l.drop (k + 1), come ++ [x], V', A2, V'.length, c2, rfl, rfl, Lib.hid (hV2.ext x7), hset.1, by omega, by rw [List.length_append, List.length_cons, List.length_nil]; omega, Lib.hid (o7.down (x3.trans x4)), Lib.hid ((o3.ext x4).ext x7), Lib.hid fun j hj => ⟨fun e => ?_, .inr fun b oo e he => ?_⟩, Lib.hid fun y hy => ?_, Lib.hid hT, Nat.le_refl _, (x3.trans x4).trans x7⟩
  · have := (o7.lt j e).1
    have := (hlt j hj).2
    have := x4.size
    omega
  · have := (hlt j hj).2
    have := (hltC b (by rw [e]; rfl)).1
    omega
  · rcases List.mem_append.1 hy with hy | hy
    · exact hok y (List.mem_of_mem_take hy)
    · exact hok y (List.mem_of_mem_drop hy)

set_option maxRecDepth 100000 in
set_option maxHeartbeats 16000000 in
theorem takeRef_any (A B : Option Addr) (n cap m capm : Nat) (v : List (Int × Int)) (L : List It) (w : World) (hv : Vec w A v) (hn : v.length = n) (hmay : mayFrom 0 v = true) (hu : ItS w B L) (hm : L.length = m) (hb : n + m ≤ 1000) (hok : ∀ x ∈ L, okW x) :
    Calls Try.prog 11 #[.slice A n cap, .slice B m capm] w (RetTk w (takeI v L)) := by
  have hsort := Lib.hid (sorted_any B m capm L w hu hm (by omega))
  have hrdy := Lib.hid (fun (A : Option Addr) (n cap : Nat) (V : List (Int × Int)) (x : It) (W : World) (hv : Vec W A V) (hn : V.length = n) (hb : n ≤ 1000) => rdyRef_any A n cap V x W hv hn hb)
  obtain ⟨T, hT⟩ : ∃ T, takeI v L = T := ⟨_, rfl⟩
  rw [hT]
  have hT0 := Lib.hid (show ([] ++ (takR (sortI [] L).length v (sortI [] L)).1, (takR (sortI [] L).length v (sortI [] L)).2.1, (takR (sortI [] L).length v (sortI [] L)).2.2) = T by rw [sort_len, ← hT]; rfl)
  have hok0 := Lib.hid (fun x (hx : x ∈ sortI [] L) => hok x (by simpa using (sort_perm L []).mem_iff.1 hx))
  have hlen := sort_len L
  rw [hm] at hlen
  replace hv := Lib.hid hv
  clear hT hu hm hok
  generalize sortI [] L = q0 at *
  go_enter Try.func11, Try.ntmps11
  go_wp2_with fail
  refine hsort.out.mono ?_
  rintro e w1 ⟨rv, rfl, ro, rx⟩
  have hlow := Lib.hid hv.out.low
  replace hv := Lib.hid (hv.out.ext rx)
  clear hsort
  go_wp2_with fail
  go_loopg [0, 7, 8] m (fun g a r c W => PtR w T g a r c W)
  case atStart => exact ⟨q0, [], v, A, n, cap, rfl, hn, hv, hmay, by omega, by simp; omega, Lib.hid ro, Lib.hid (OwnI.nil _ _), Lib.hid (fun k h => by cases h), hok0, hT0, by omega, rx⟩
  case round =>
    clear hv hlow ro rx hok0 hT0 hmay hlen hn hb
    obtain ⟨l, come, V, A1, n1, c1, rfl, hn, hV, hmay, hsmall1, hsmall2, hro, hco, hap, hok, hT, hg, hx⟩ := hrel
    obtain ⟨Ar, cr, rfl, hcr, hI⟩ := hro.out.open
    obtain ⟨m, hm⟩ : ∃ k, l.length = k := ⟨_, rfl⟩
    rw [hm] at hcr hsmall1 hsmall2 hg hro hap ⊢
    replace hn := Lib.hid hn
    replace hm := Lib.hid hm
    replace hI := Lib.hid hI
    have hx := Lib.hid hx
    generalize hwo : wr = wo at *
    clear hwo
    go_upto_block 2 with fail
    go_cut [9] (fun s wx => ∃ at' : Int, s = Vi at' ∧ Hid ((at' = -1 ∧ fstR V l = none) ∨ ∃ k x, at' = ((k : Nat) : Int) ∧ l[k]? = some x ∧ fstR V l = some (x, l.take k ++ l.drop (k + 1))) ∧ Hid (Ext wo wx))
    case first =>
      go_wp2_with fail
      go_loopw [9, 10] (fun s9 s10 W => ∃ k : Nat, k ≤ m ∧ s10 = Vi k ∧ Hid ((s9 = Vi (-1) ∧ ∀ j y, j < k → l[j]? = some y → rdyI V y = false) ∨ (∃ k0 x, k = k0 + 1 ∧ s9 = Vi ((k0 : Nat) : Int) ∧ l[k0]? = some x ∧ rdyI V x = true ∧ ∀ j y, j < k0 → l[j]? = some y → rdyI V y = false)) ∧ Ext wo W) (fun _ s _ => m - (intOf s).toNat)
      case atStart => exact ⟨0, Nat.zero_le _, rfl, Lib.hid (.inl ⟨rfl, fun j y h => absurd h (by omega)⟩), Ext.refl _⟩
      case round =>
        obtain ⟨k, hk, rfl, hs, hx2⟩ := hrel
        rcases hs.out with ⟨rfl, hnot⟩ | ⟨k0, x, rfl, rfl, hx0, hr0, hnot⟩
        · clear hs
          by_cases hlt : k < m
          · obtain ⟨b, o, x, hA, hp, d⟩ := (hI.out.ext hx2).at (k := k) (by rw [hm.out]; exact hlt)
            obtain ⟨c0, c1', c2, c3, c4, c5, c6⟩ := d
            have hk1 : (0 : Int) ≤ (k : Int) := by omega
            have hk2 : (k : Int) < (m : Int) := by omega
            subst hA
            have hcall := Lib.hid (hrdy.out A1 n1 c1 V x wr (hV.out.ext hx2) hn.out (by omega))
            cases hr : rdyI V x with
            | true =>
              rw [hr] at hcall
              have hh := Lib.hid (show l[k]? = some x ∧ rdyI V x = true ∧ ∀ j y, j < k → l[j]? = some y → rdyI V y = false from ⟨hp, hr, hnot⟩)
              clear hp hr hnot
              go_wp2_with fail
              refine hcall.out.mono ?_
              rintro e w2 ⟨rfl, x2⟩
              go_wp2
              go_roundw
              case rel => exact ⟨k + 1, by omega, by go_num, Lib.hid (.inr ⟨k, x, rfl, rfl, hh.out⟩), hx2.trans x2⟩
              case measure => simp [intOf]; omega
            | false =>
              rw [hr] at hcall
              have hh := Lib.hid (show ∀ j y, j < k + 1 → l[j]? = some y → rdyI V y = false from fun j y hj hy => by
                by_cases e : j = k
                · rw [e, hp] at hy
                  injection hy with hy
                  rw [← hy]; exact hr
                · exact hnot j y (by omega) hy)
              clear hp hr hnot
              go_wp2_with fail
              refine hcall.out.mono ?_
              rintro e w2 ⟨rfl, x2⟩
              go_wp2
              go_roundw
              case rel => exact ⟨k + 1, by omega, by go_num, Lib.hid (.inl ⟨rfl, hh.out⟩), hx2.trans x2⟩
              case measure => simp [intOf]; omega
          · have hh := Lib.hid (show fstR V l = none from fst_none.2 fun y hy => by
              obtain ⟨j, hj⟩ := List.mem_iff_getElem?.1 hy
              have hjm : j < l.length := by
                obtain ⟨h, _⟩ := List.getElem?_eq_some_iff.1 hj
                exact h
              rw [hm.out] at hjm
              exact hnot j y (by omega) hj)
            clear hnot
            go_wp2_with fail
            go_meet
            exact ⟨_, rfl, Lib.hid (.inl ⟨rfl, hh.out⟩), Lib.hid hx2⟩
        · have hh := Lib.hid (show l[k0]? = some x ∧ fstR V l = some (x, l.take k0 ++ l.drop (k0 + 1)) from ⟨hx0, fst_at hx0 hr0 hnot⟩)
          clear hs hx0 hr0 hnot
          have hneg : ¬ ((k0 : Int) < 0) := by omega
          by_cases hlt : k0 + 1 < m
          · go_wp2_with fail
            go_meet
            exact ⟨_, rfl, Lib.hid (.inr ⟨k0, x, rfl, hh.out⟩), Lib.hid hx2⟩
          · go_wp2_with fail
            go_meet
            exact ⟨_, rfl, Lib.hid (.inr ⟨k0, x, rfl, hh.out⟩), Lib.hid hx2⟩
    case rest =>
      obtain ⟨at', rfl, hat, hxc⟩ := hcut
      rcases hat.out with ⟨rfl, hnone⟩ | ⟨k, x, rfl, hp, hfst⟩
      · have hT1 := Lib.hid (show (come, l, V) = T by have := hT.out; rw [tak_none hnone] at this; simpa using this)
        clear hnone hat hT
        obtain ⟨Ac, cc, rfl, hcc, hIc⟩ := hco.out.open
        replace hIc := Lib.hid (hIc.ext hxc.out)
        replace hI := Lib.hid (hI.out.ext hxc.out)
        replace hV := Lib.hid (hV.out.ext hxc.out)
        have hX := Lib.hid (hx.out.trans hxc.out)
        have hend := Lib.hid (show RetTk w T (.returned (.tuple #[.slice Ac come.length cc, .slice Ar m cr, .slice A1 n1 c1])) wc by
          rw [← hT1.out, ← hm.out, ← hn.out]
          exact ⟨Ac, cc, Ar, cr, A1, c1, rfl, hcc, by show l.length ≤ cr; rw [hm.out]; exact hcr, hIc.out, hI.out, hV.out, hX.out⟩)
        generalize come.length = nc at *
        clear hco hro hap hV hI hIc hX hT1 hcr hcc
        go_wp2
        go_ret3
        exact hend.out
      · have hk : k < m := by
          obtain ⟨h, _⟩ := List.getElem?_eq_some_iff.1 hp
          rw [← hm.out]; exact h
        obtain ⟨b, o, x', hA, hp', d⟩ := (hI.out.ext hxc.out).at (k := k) (by rw [hm.out]; exact hk)
        rw [hp] at hp'
        injection hp' with hp'
        subst hp'
        subst hA
        obtain ⟨c0, c1', c2, c3, c4, c5, c6⟩ := d
        have hxo := hok.out x (List.mem_of_getElem? hp)
        have hi1 : (0 : Int) ≤ (k : Int) := by omega
        have hi2 : (k : Int) < (m : Int) := by omega
        have hwr : IntKind.u32.wrap (x.k + 1) = x.k + 1 := IntWalk.u32_in _ (by have := hxo.2.2; omega)
        have hwk : IntKind.i64.wrap ((k : Int) + 1) = (k : Int) + 1 := IntWalk.i64_in _ (by omega)
        have hup := fun W : World => uptoI (some ⟨b, o, none⟩) m cr k (by omega) (k : Int) rfl W
        have hfr := fun W : World => fromI (some ⟨b, o, none⟩) m cr (k + 1) (by omega) ((k : Int) + 1) (by omega) W
        have hl2 := Lib.hid (show (l.take k).length = k by rw [List.length_take, hm.out]; omega)
        have hT4 := Lib.hid (show ((come ++ [x]) ++ (takR (l.take k ++ l.drop (k + 1)).length (setOf V x.c (x.k + 1)) (l.take k ++ l.drop (k + 1))).1, (takR (l.take k ++ l.drop (k + 1)).length (setOf V x.c (x.k + 1)) (l.take k ++ l.drop (k + 1))).2.1, (takR (l.take k ++ l.drop (k + 1)).length (setOf V x.c (x.k + 1)) (l.take k ++ l.drop (k + 1))).2.2) = T by
          have hl := fst_len hfst
          have := hT.out
          rw [hl, tak_some hfst] at this
          simpa using this)
        have hset2 := Lib.hid (show mayFrom 0 (setOf V x.c (x.k + 1)) = true ∧ (setOf V x.c (x.k + 1)).length ≤ n1 + 1 from ⟨set_mayW hmay hxo, by have := set_len V x.c (x.k + 1); rw [hn.out] at this; exact this⟩)
        have hx0 := Lib.hid (hx.out.trans hxc.out)
        have hpx := Lib.hid hp
        clear hat hfst hT hp
        replace hco := Lib.hid (hco.out.ext hxc.out)
        replace hro := Lib.hid (hro.out.ext hxc.out)
        replace hV := Lib.hid (hV.out.ext hxc.out)
        have hc0 : x.c ≠ 0 := by have := hxo.1; omega
        have hneg : decide ((k : Int) < 0) = false := decide_eq_false (by omega)
        clear hI
        go_wp2_with (first
              | (at_builtin
                 refine wpList_append_I (w0 := w) rfl (.tmp 37) (.tmp 42) rfl _ come rfl (hco.out.ext ((Ext.refl wc).alloc _)) (hx0.out.alloc _) _ 1 1 [x] rfl rfl (ItS.new wc x) (by simp only [List.length_cons, List.length_nil]; omega) ?_
                 intro v3 w3 o3 x3 g3 e3)
              | fail)
        clear c0 c1' c2 c3 c4 c5 c6
        obtain ⟨hr3, hV3⟩ := pt_app hro.out hV.out hap.out g3
        have hset := Lib.hid (fun (W : World) (hW : Ext w3 W) => setRef_own A1 n1 c1 V x.c (x.k + 1) W (hV3.ext hW) hn.out hmay (by omega) hc0)
        have hI3 := Lib.hid (show ItS w3 (some ⟨b, o, none⟩) l by rw [← hm.out] at hr3; exact OwnG.row hr3)
        have ho3 := Lib.hid o3
        have hx3 := Lib.hid x3
        obtain ⟨c0, c1'⟩ := pt_cells hI3.out hpx.out
        clear o3 x3 g3 e3 hr3 hV3 hV hap hro hco hx0 hpx hc0
        refine wp_soft_frame Ext 14 (pdtS A1 n1 c1 b o m cr k x) (by kernel_rfl) (by kernel_rfl) (fun _ _ _ => Ext.trans) ((Ext.refl _).drew) rfl (by show List.Nodup [44, 45, 46, 47, 48, 49, 50, 51, 52, 53, 54, 55, 56, 57]; decide) (by show ∀ d ∈ [44, 45, 46, 47, 48, 49, 50, 51, 52, 53, 54, 55, 56, 57], d < 69; decide) (pdtS_mono A1 n1 c1 b o m cr k x Ext (fun _ _ h => h)) ?_ ⟨?_, ?_, ?_, ?_, ?_, ?_, ?_, ?_, ?_, ?_, ?_, ?_, ?_, ?_, trivial⟩
        · intro W vs hT hR
          match vs, hT with
          | [v0, v1, v2, v3, v4, v5, v6, v7, v8, v9, v10, v11, v12, v13], ⟨e0, e1, e2, e3, e4, e5, e6, e7, e8, e9, e10, e11, e12, e13, _⟩ =>
            simp only [pdtS, List.map_cons, List.map_nil, List.zip_cons_cons, List.zip_nil_left, putAll, List.setIfInBounds_toArray, List.set_cons_zero, List.set_cons_succ, List.drop_succ_cons, List.drop_zero]
            simp only at e0 e1 e2 e3 e4 e5 e6 e7 e8 e9 e10 e11 e12 e13
            rw [e0, e1, e2, e3, e4, e5, e6, e7, e8, e9, e10, e11, e12, e13]
            clear e0 e1 e2 e3 e4 e5 e6 e7 e8 e9 e10 e11 e12 e13 v0 v1 v2 v3 v4 v5 v6 v7 v8 v9 v10 v11 v12 v13
            clear hT c0 c1'
            go_wp2_with fail
            refine (hset.out W hR).mono ?_
            rintro e w4 ⟨vC, rfl, oC, x4⟩
            replace x4 := Lib.hid (hR.trans x4)
            have hoC := Lib.hid (OwnG.down oC hR)
            clear oC hR hset hi1 hi2 hwr
            have hI4 := Lib.hid (hI3.out.ext x4.out)
            clear hI3
            go_wp2_with fail
            refine wp_soft_frame Ext 9 (pdtR b o m cr k l w4) (by kernel_rfl) (by kernel_rfl) (fun _ _ _ => Ext.trans) ((Ext.refl _).drew) rfl (by show List.Nodup [59, 60, 61, 62, 63, 64, 65, 66, 67]; decide) (by show ∀ d ∈ [59, 60, 61, 62, 63, 64, 65, 66, 67], d < 69; decide) (pdtR_mono b o m cr k l w4 Ext (fun _ _ h => h)) ?_ ⟨?_, ?_, ?_, ?_, ?_, ?_, ?_, ?_, ?_, trivial⟩
            · intro W vs hT hR2
              match vs, hT with
              | [v0, v1, v2, v3, v4, v5, v6, v7, v8], ⟨e0, e1, e2, e3, e4, e5, e6, e7, e8, _⟩ =>
                simp only [pdtR, List.map_cons, List.map_nil, List.zip_cons_cons, List.zip_nil_left, putAll, List.setIfInBounds_toArray, List.set_cons_zero, List.set_cons_succ, List.drop_succ_cons, List.drop_zero]
                simp only at e1 e2 e3 e5 e6 e7 e8
                obtain ⟨q0, e0, h0⟩ := e0
                obtain ⟨q4, e4, h4⟩ := e4
                rw [e0, e1, e2, e3, e4, e5, e6, e7, e8]
                clear e0 e1 e2 e3 e4 e5 e6 e7 e8 v0 v1 v2 v3 v4 v5 v6 v7 v8
                clear hT h0
                have hJ := hI4.out.ext hR2
                have hcut := hJ.cut (n := m) (cap := cr) (k := k + 1) hm.out hcr (by omega)
                have hl1 := Lib.hid (show (l.drop (k + 1)).length = m - (k + 1) by rw [List.length_drop, hm.out])
                go_wp2_with (first
              | (at_builtin
                 refine wpList_append_I (w0 := w4) rfl (.tmp 63) (.tmp 67) rfl _ (l.take k) rfl h4 hR2 _ (m - (k + 1)) (cr - (k + 1)) (l.drop (k + 1)) rfl hl1.out hcut (by rw [hl1.out, hl2.out]; omega) ?_
                 intro v7 w7 o7 x7 g7 e7)
              | fail)
                have hfin := Lib.hid (ptr_next ho3.out hx3.out hoC.out x4.out o7 x7 hm.out hk hsmall1 hsmall2 hok.out hset2.out hT4.out)
                have hms := Lib.hid (show (l.take k ++ l.drop (k + 1)).length < m by rw [List.length_append, hl1.out, hl2.out]; omega)
                clear o7 x7 g7 e7 hJ hcut h4 hR2 hT4 hset2 hok
                generalize (l.take k ++ l.drop (k + 1)).length = mq at *
                go_wp2
                go_roundg mq
                case measure => have := hms.out; omega
                case rel => exact hfin.out
            · refine softR_val 59 _ (by kernel_rfl) rfl rfl ?_
              intro a W hx hout hdep
              refine ⟨rfl, .slice (some ⟨W.heap.size, 0, none⟩) 0 0, _, ?_, ⟨_, rfl, hx.size, heap_alloc_new W _⟩, (Ext.refl W).alloc _⟩
              simp [execOp, go_sem]
            · refine softR_val 60 _ (by kernel_rfl) rfl rfl ?_
              intro a W hx hout hdep
              have ev7 : a.tmps[7]?.getD undef = .slice (some ⟨b, o, none⟩) m cr := by rw [← Array.getD_eq_getD_getElem?]; exact hout 7 (by show 7 ∉ [59, 60, 61, 62, 63, 64, 65, 66, 67]; decide)
              refine ⟨rfl, .slice (some ⟨b, o, none⟩) m cr, W, ?_, rfl, Ext.refl _⟩
              simp [ev7, execOp, go_sem]
            · refine softR_val 61 _ (by kernel_rfl) rfl rfl ?_
              intro a W hx hout hdep
              have ev9 : a.tmps[9]?.getD undef = Vi (k : Int) := by rw [← Array.getD_eq_getD_getElem?]; exact hout 9 (by show 9 ∉ [59, 60, 61, 62, 63, 64, 65, 66, 67]; decide)
              refine ⟨rfl, Vi (k : Int), W, ?_, rfl, Ext.refl _⟩
              simp [ev9, execOp, go_sem]
            · refine softR_val 62 _ (by kernel_rfl) rfl rfl ?_
              intro a W hx hout hdep
              have ev60 : a.tmps[60]?.getD undef = .slice (some ⟨b, o, none⟩) m cr := by rw [← Array.getD_eq_getD_getElem?]; exact (hdep ⟨1, .data⟩ (by simp) rfl 60 _ rfl).1
              have ev61 : a.tmps[61]?.getD undef = Vi (k : Int) := by rw [← Array.getD_eq_getD_getElem?]; exact (hdep ⟨2, .data⟩ (by simp) rfl 61 _ rfl).1
              refine ⟨rfl, .slice (some ⟨b, o, none⟩) k cr, W, ?_, rfl, Ext.refl _⟩
              simp [ev60, ev61, hup, execOp, go_sem]
            · refine softR_val 63 _ (by kernel_rfl) rfl rfl ?_
              intro a W hx hout hdep
              have tl59 := (hdep ⟨0, .data⟩ (by simp) rfl 59 _ rfl).1
              have ev62 : a.tmps[62]?.getD undef = .slice (some ⟨b, o, none⟩) k cr := by rw [← Array.getD_eq_getD_getElem?]; exact (hdep ⟨3, .data⟩ (by simp) rfl 62 _ rfl).1
              obtain ⟨q9, eq9, hq9, hc9⟩ := tl59
              have hs9 : a.eval (.tmp 59) = .slice (some ⟨q9, 0, none⟩) 0 0 := eq9
              have ht9 : a.eval (.tmp 62) = .slice (some ⟨b, o, none⟩) k cr := (hdep ⟨3, .data⟩ (by simp) rfl 62 _ rfl).1
              obtain ⟨v9, w9, hrun9, ho9, hx9⟩ := run_append_P0 w4 W 23 q9 (l.take k) (some ⟨b, o, none⟩) k cr hl2.out ((hI4.out.ext hx).take k) hx (by omega) hq9 hc9
              refine ⟨rfl, v9, w9, ?_, ⟨_, rfl, ho9⟩, hx9⟩
              simp only [execOp, resolve, invoke, builtin, Sem.run_bind, Sem.run_pure, Result.andThen_ok, List.map_toArray, List.map_cons, List.map_nil, hs9, ht9, hrun9]
            · refine softR_val 64 _ (by kernel_rfl) rfl rfl ?_
              intro a W hx hout hdep
              have ev7 : a.tmps[7]?.getD undef = .slice (some ⟨b, o, none⟩) m cr := by rw [← Array.getD_eq_getD_getElem?]; exact hout 7 (by show 7 ∉ [59, 60, 61, 62, 63, 64, 65, 66, 67]; decide)
              refine ⟨rfl, .slice (some ⟨b, o, none⟩) m cr, W, ?_, rfl, Ext.refl _⟩
              simp [ev7, execOp, go_sem]
            · refine softR_val 65 _ (by kernel_rfl) rfl rfl ?_
              intro a W hx hout hdep
              have ev9 : a.tmps[9]?.getD undef = Vi (k : Int) := by rw [← Array.getD_eq_getD_getElem?]; exact hout 9 (by show 9 ∉ [59, 60, 61, 62, 63, 64, 65, 66, 67]; decide)
              refine ⟨rfl, Vi (k : Int), W, ?_, rfl, Ext.refl _⟩
              simp [ev9, execOp, go_sem]
            · refine softR_val 66 _ (by kernel_rfl) rfl rfl ?_
              intro a W hx hout hdep
              have ev65 : a.tmps[65]?.getD undef = Vi (k : Int) := by rw [← Array.getD_eq_getD_getElem?]; exact (hdep ⟨6, .data⟩ (by simp) rfl 65 _ rfl).1
              refine ⟨rfl, Vi ((k : Int) + 1), W, ?_, rfl, Ext.refl _⟩
              simp [ev65, hwk, execOp, go_sem]
            · refine softR_val 67 _ (by kernel_rfl) rfl rfl ?_
              intro a W hx hout hdep
              have ev64 : a.tmps[64]?.getD undef = .slice (some ⟨b, o, none⟩) m cr := by rw [← Array.getD_eq_getD_getElem?]; exact (hdep ⟨5, .data⟩ (by simp) rfl 64 _ rfl).1
              have ev66 : a.tmps[66]?.getD undef = Vi ((k : Int) + 1) := by rw [← Array.getD_eq_getD_getElem?]; exact (hdep ⟨7, .data⟩ (by simp) rfl 66 _ rfl).1
              refine ⟨rfl, .slice (cutA (some ⟨b, o, none⟩) cr (k + 1) 7) (m - (k + 1)) (cr - (k + 1)), W, ?_, rfl, Ext.refl _⟩
              simp [ev64, ev66, hfr, execOp, go_sem]
        · refine softR_val 44 _ (by kernel_rfl) rfl rfl ?_
          intro a W hx hout hdep
          have ev0 : a.tmps[0]?.getD undef = .slice A1 n1 c1 := by rw [← Array.getD_eq_getD_getElem?]; exact hout 0 (by show 0 ∉ [44, 45, 46, 47, 48, 49, 50, 51, 52, 53, 54, 55, 56, 57]; decide)
          refine ⟨rfl, .slice A1 n1 c1, W, ?_, rfl, Ext.refl _⟩
          simp [ev0, execOp, go_sem]
        · refine softR_val 45 _ (by kernel_rfl) rfl rfl ?_
          intro a W hx hout hdep
          have ev7 : a.tmps[7]?.getD undef = .slice (some ⟨b, o, none⟩) m cr := by rw [← Array.getD_eq_getD_getElem?]; exact hout 7 (by show 7 ∉ [44, 45, 46, 47, 48, 49, 50, 51, 52, 53, 54, 55, 56, 57]; decide)
          refine ⟨rfl, .slice (some ⟨b, o, none⟩) m cr, W, ?_, rfl, Ext.refl _⟩
          simp [ev7, execOp, go_sem]
        · refine softR_val 46 _ (by kernel_rfl) rfl rfl ?_
          intro a W hx hout hdep
          have ev9 : a.tmps[9]?.getD undef = Vi (k : Int) := by rw [← Array.getD_eq_getD_getElem?]; exact hout 9 (by show 9 ∉ [44, 45, 46, 47, 48, 49, 50, 51, 52, 53, 54, 55, 56, 57]; decide)
          refine ⟨rfl, Vi (k : Int), W, ?_, rfl, Ext.refl _⟩
          simp [ev9, execOp, go_sem]
        · refine softR_val 47 _ (by kernel_rfl) rfl rfl ?_
          intro a W hx hout hdep
          have ev45 : a.tmps[45]?.getD undef = .slice (some ⟨b, o, none⟩) m cr := by rw [← Array.getD_eq_getD_getElem?]; exact (hdep ⟨1, .data⟩ (by simp) rfl 45 _ rfl).1
          have ev46 : a.tmps[46]?.getD undef = Vi (k : Int) := by rw [← Array.getD_eq_getD_getElem?]; exact (hdep ⟨2, .data⟩ (by simp) rfl 46 _ rfl).1
          refine ⟨rfl, .pointer (some ⟨b, o + k * 7, none⟩), W, ?_, rfl, Ext.refl _⟩
          simp [ev45, ev46, hi1, hi2, execOp, go_sem]
        · refine softR_val 48 _ (by kernel_rfl) rfl rfl ?_
          intro a W hx hout hdep
          have ev47 : a.tmps[47]?.getD undef = .pointer (some ⟨b, o + k * 7, none⟩) := by rw [← Array.getD_eq_getD_getElem?]; exact (hdep ⟨3, .data⟩ (by simp) rfl 47 _ rfl).1
          refine ⟨rfl, .pointer (some ⟨b, o + k * 7, none⟩), W, ?_, rfl, Ext.refl _⟩
          simp [ev47, execOp, go_sem]
        · refine softR_val 49 _ (by kernel_rfl) rfl rfl ?_
          intro a W hx hout hdep
          have ev48 : a.tmps[48]?.getD undef = .pointer (some ⟨b, o + k * 7, none⟩) := by rw [← Array.getD_eq_getD_getElem?]; exact (hdep ⟨4, .data⟩ (by simp) rfl 48 _ rfl).1
          refine ⟨rfl, .pointer (some ⟨b, o + k * 7, none⟩), W, ?_, rfl, Ext.refl _⟩
          simp [ev48, execOp, go_sem]
        · refine softR_val 50 _ (by kernel_rfl) rfl rfl ?_
          intro a W hx hout hdep
          have ev49 : a.tmps[49]?.getD undef = .pointer (some ⟨b, o + k * 7, none⟩) := by rw [← Array.getD_eq_getD_getElem?]; exact (hdep ⟨5, .data⟩ (by simp) rfl 49 _ rfl).1
          have q0 := hx.keep c0
          refine ⟨rfl, Vu x.c, W, ?_, rfl, Ext.refl _⟩
          simp [ev49, q0, execOp, go_sem]
        · refine softR_val 51 _ (by kernel_rfl) rfl rfl ?_
          intro a W hx hout hdep
          have ev7 : a.tmps[7]?.getD undef = .slice (some ⟨b, o, none⟩) m cr := by rw [← Array.getD_eq_getD_getElem?]; exact hout 7 (by show 7 ∉ [44, 45, 46, 47, 48, 49, 50, 51, 52, 53, 54, 55, 56, 57]; decide)
          refine ⟨rfl, .slice (some ⟨b, o, none⟩) m cr, W, ?_, rfl, Ext.refl _⟩
          simp [ev7, execOp, go_sem]
        · refine softR_val 52 _ (by kernel_rfl) rfl rfl ?_
          intro a W hx hout hdep
          have ev9 : a.tmps[9]?.getD undef = Vi (k : Int) := by rw [← Array.getD_eq_getD_getElem?]; exact hout 9 (by show 9 ∉ [44, 45, 46, 47, 48, 49, 50, 51, 52, 53, 54, 55, 56, 57]; decide)
          refine ⟨rfl, Vi (k : Int), W, ?_, rfl, Ext.refl _⟩
          simp [ev9, execOp, go_sem]
        · refine softR_val 53 _ (by kernel_rfl) rfl rfl ?_
          intro a W hx hout hdep
          have ev51 : a.tmps[51]?.getD undef = .slice (some ⟨b, o, none⟩) m cr := by rw [← Array.getD_eq_getD_getElem?]; exact (hdep ⟨7, .data⟩ (by simp) rfl 51 _ rfl).1
          have ev52 : a.tmps[52]?.getD undef = Vi (k : Int) := by rw [← Array.getD_eq_getD_getElem?]; exact (hdep ⟨8, .data⟩ (by simp) rfl 52 _ rfl).1
          refine ⟨rfl, .pointer (some ⟨b, o + k * 7, none⟩), W, ?_, rfl, Ext.refl _⟩
          simp [ev51, ev52, hi1, hi2, execOp, go_sem]
        · refine softR_val 54 _ (by kernel_rfl) rfl rfl ?_
          intro a W hx hout hdep
          have ev53 : a.tmps[53]?.getD undef = .pointer (some ⟨b, o + k * 7, none⟩) := by rw [← Array.getD_eq_getD_getElem?]; exact (hdep ⟨9, .data⟩ (by simp) rfl 53 _ rfl).1
          refine ⟨rfl, .pointer (some ⟨b, o + k * 7, none⟩), W, ?_, rfl, Ext.refl _⟩
          simp [ev53, execOp, go_sem]
        · refine softR_val 55 _ (by kernel_rfl) rfl rfl ?_
          intro a W hx hout hdep
          have ev54 : a.tmps[54]?.getD undef = .pointer (some ⟨b, o + k * 7, none⟩) := by rw [← Array.getD_eq_getD_getElem?]; exact (hdep ⟨10, .data⟩ (by simp) rfl 54 _ rfl).1
          refine ⟨rfl, .pointer (some ⟨b, o + k * 7 + 1, none⟩), W, ?_, rfl, Ext.refl _⟩
          simp [ev54, execOp, go_sem]
        · refine softR_val 56 _ (by kernel_rfl) rfl rfl ?_
          intro a W hx hout hdep
          have ev55 : a.tmps[55]?.getD undef = .pointer (some ⟨b, o + k * 7 + 1, none⟩) := by rw [← Array.getD_eq_getD_getElem?]; exact (hdep ⟨11, .data⟩ (by simp) rfl 55 _ rfl).1
          have q0 := hx.keep c1'
          refine ⟨rfl, Vu x.k, W, ?_, rfl, Ext.refl _⟩
          simp [ev55, q0, execOp, go_sem]
        · refine softR_val 57 _ (by kernel_rfl) rfl rfl ?_
          intro a W hx hout hdep
          have ev56 : a.tmps[56]?.getD undef = Vu x.k := by rw [← Array.getD_eq_getD_getElem?]; exact (hdep ⟨12, .data⟩ (by simp) rfl 56 _ rfl).1
          refine ⟨rfl, Vu (x.k + 1), W, ?_, rfl, Ext.refl _⟩
          simp [ev56, hwr, execOp, go_sem]

end Go.Proofs.Ytdpmhhfpjpdfiaa

namespace Go.Proofs.Ytdpmhhfpjpdfiaa
open Go.ChangeShapes Go.WideShapes Go.ChangeAt Go.RowKit Go.Sort
set_option linter.unusedVariables false
set_option linter.unusedSimpArgs false
attribute [local go_sem] World.cell?_alloc_some
attribute [local go_sem ↓] id_eql

end Go.Proofs.Ytdpmhhfpjpdfiaa

namespace Go.Proofs.Ytdpmhhfpjpdfiaa
open Go.ChangeShapes Go.WideShapes Go.ChangeAt Go.RowKit Go.Sort
set_option linter.unusedVariables false
set_option linter.unusedSimpArgs false
attribute [local go_sem] World.cell?_alloc_some

def wfIs (l : List It) : Prop := ∀ x ∈ l, wfI x
theorem wfIs.at {l : List It} (h : wfIs l) {k : Nat} {x : It} (hx : l[k]? = some x) : wfI x := h x (List.mem_of_getElem? hx)

structure ItG (w : World) (b o : Nat) (x : It) : Prop where
  c0 : ∀ d os, (grow (redrawn w d) os).cell? ⟨b, o, none⟩ = some (Vu x.c)
  c1 : ∀ d os, (grow (redrawn w d) os).cell? ⟨b, o + 1, none⟩ = some (Vu x.k)
  c2 : ∀ d os, (grow (redrawn w d) os).cell? ⟨b, o + 2, none⟩ = some (Vu x.lc)
  c3 : ∀ d os, (grow (redrawn w d) os).cell? ⟨b, o + 3, none⟩ = some (Vu x.lk)
  c4 : ∀ d os, (grow (redrawn w d) os).cell? ⟨b, o + 4, none⟩ = some (Vu x.rc)
  c5 : ∀ d os, (grow (redrawn w d) os).cell? ⟨b, o + 5, none⟩ = some (Vu x.rk)
  c6 : ∀ d os, (grow (redrawn w d) os).cell? ⟨b, o + 6, none⟩ = some (.int .i32 x.ch)
theorem ItC.regrown {w : World} {b o : Nat} {x : It} (h : ItC w b o x) : ItG w b o x := ⟨cell_regrown h.c0, cell_regrown h.c1, cell_regrown h.c2, cell_regrown h.c3, cell_regrown h.c4, cell_regrown h.c5, cell_regrown h.c6⟩

end Go.Proofs.Ytdpmhhfpjpdfiaa

namespace Go.Proofs.Ytdpmhhfpjpdfiaa
open Go.ChangeShapes Go.WideShapes Go.ChangeAt Go.RowKit Go.Sort
set_option linter.unusedVariables false
set_option linter.unusedSimpArgs false
attribute [local go_sem] World.cell?_alloc_some

theorem item_neq (a b c d e f g : Int) (W : World) : (binOp .neq 32 (.agg #[.int .u32 a, .int .u32 b, .int .u32 c, .int .u32 d, .int .u32 e, .int .u32 f, .int .i32 g]) (.agg #[.int .u32 a, .int .u32 b, .int .u32 c, .int .u32 d, .int .u32 e, .int .u32 f, .int .i32 g])).run Try.prog W = .ok (.bool false) W := by
  simp [go_sem]
set_option maxRecDepth 100000 in
set_option maxHeartbeats 2000000 in
theorem sameI_any (A B : Option Addr) (n cap cap' : Nat) (l : List It) (w : World) (hv : ItS w A l) (hu : ItS w B l) (hn : l.length = n) (hb : n ≤ 100000) :
    Calls Try.prog 12 #[.slice A n cap, .slice B n cap'] w fun e w' => e = .returned (.bool true) ∧ Ext w w' := by
  replace hn := Lib.hid hn
  replace hv := Lib.hid hv
  replace hu := Lib.hid hu
  go_enter Try.func12, Try.ntmps12
  go_wp2
  go_loopw [5] (fun i W => ∃ (k : Nat), k ≤ n ∧ i = .int .i64 k ∧ Ext w W) (fun i _ => n - (intOf i).toNat)
  case atStart => exact ⟨0, Nat.zero_le _, rfl, Ext.refl _⟩
  case round =>
    obtain ⟨k, hk, rfl, hx⟩ := hrel
    by_cases hlt : k < n
    · obtain ⟨b, o, x, rfl, hp, c⟩ := (hv.out.ext hx).at (k := k) (by rw [hn.out]; exact hlt)
      obtain ⟨b', o', x', rfl, hp', c'⟩ := (hu.out.ext hx).at (k := k) (by rw [hn.out]; exact hlt)
      rw [hp] at hp'
      injection hp' with hp'
      subst hp'
      clear hp
      obtain ⟨c0, c1, c2, c3, c4, c5, c6⟩ := c
      obtain ⟨d0, d1, d2, d3, d4, d5, d6⟩ := c'
      have hnq := item_neq x.c x.k x.lc x.lk x.rc x.rk x.ch
      go_wp2
      go_quiet (fail)
      go_wp2
      go_roundw
      case rel => exact ⟨k + 1, by omega, by go_num, hx.drewN _⟩
      case measure => simp [intOf]; omega
    · go_wp2
      go_ret
      exact ⟨rfl, hx⟩

end Go.Proofs.Ytdpmhhfpjpdfiaa

namespace Go.Proofs.Ytdpmhhfpjpdfiaa
open Go.ChangeShapes Go.WideShapes Go.ChangeAt Go.RowKit Go.Sort
set_option linter.unusedVariables false
set_option linter.unusedSimpArgs false
attribute [local go_sem] World.cell?_alloc_some

set_option maxHeartbeats 1000000 in
theorem mayRef_big (A : Option Addr) (n cap : Nat) (l : List (Int × Int)) (w : World) (hv : Vec w A l) (hn : l.length = n) (hw : wfC l) (hb : n ≤ 9223372036854775807) :
    Calls Try.prog 6 #[.slice A n cap] w fun e w' => e = .returned (.bool (mayFrom 0 l)) ∧ Ext w w' := by
  replace hn := Lib.hid hn
  replace hv := Lib.hid hv
  replace hw := Lib.hid hw
  go_enter Try.func6, Try.ntmps6
  go_wp2
  go_loopw [3] (fun i W => ∃ (k : Nat), k ≤ n ∧ i = .int .i64 k ∧ Hid (mayFrom 0 l = mayFrom (ahead l k) (l.drop k)) ∧ Ext w W) (fun i _ => n - (intOf i).toNat)
  case atStart => exact ⟨0, Nat.zero_le _, rfl, Lib.hid (by simp [ahead]), Ext.refl _⟩
  case round =>
    obtain ⟨k, hk, rfl, hrel, hx⟩ := hrel
    by_cases hlt : k < n
    · obtain ⟨b, o, x, y, rfl, hp, c0, c1⟩ := (hv.out.ext hx).at (k := k) (by rw [hn.out]; exact hlt)
      have hwf := wf_at hw.out hp
      have ha := ahead_nonneg hw.out k
      by_cases h0 : x = 0
      · subst h0
        have hd := Lib.hid (show mayFrom (ahead l k) (l.drop k) = false by rw [may_drop hp, decide_eq_false (by omega), Bool.false_and])
        clear hp ha
        go_wp2
        go_ret
        exact ⟨ret_bool (a := false) (by rw [hrel.out, hd.out]), hx⟩
      · have h0' : (x == 0) = false := by simpa using h0
        by_cases h1 : y = 0
        · subst h1
          have hd := Lib.hid (show mayFrom (ahead l k) (l.drop k) = false by rw [may_drop hp, decide_eq_false (by omega), Bool.false_and])
          clear hp ha
          go_wp2
          go_ret
          exact ⟨ret_bool (a := false) (by rw [hrel.out, hd.out]), hx⟩
        · have h1' : (y == 0) = false := by simpa using h1
          cases k with
          | zero =>
            have hd := Lib.hid (show mayFrom (ahead l 0) (l.drop 0) = mayFrom (ahead l (0 + 1)) (l.drop (0 + 1)) by rw [may_drop hp, decide_eq_true (by simp only [ahead]; omega), Bool.true_and, ahead_succ hp])
            clear hp ha h0 h1
            simp only [Nat.zero_mul, Nat.add_zero] at c0 c1
            go_wp2
            go_quiet (fail)
            go_wp2
            go_roundw
            case rel => exact ⟨0 + 1, by omega, by go_num, Lib.hid (by rw [hrel.out, hd.out]), hx.drewN _⟩
            case measure => simp [intOf]; omega
          | succ k =>
            obtain ⟨b', o', x', y', e, hq, c0', c1'⟩ := (hv.out.ext hx).at (k := k) (by rw [hn.out]; omega)
            injection e with e
            injection e with e1 e2
            subst e1
            subst e2
            have hah := Lib.hid (ahead_succ hq)
            have hsub : IntKind.i64.wrap (((k + 1 : Nat) : Int) - 1) = (k : Int) := by rw [show (((k + 1 : Nat) : Int) - 1) = (k : Int) by omega]; exact IntWalk.i64_in _ (by omega)
            have hi1 : (0 : Int) ≤ (k : Int) := by omega
            have hi2 : (k : Int) < (n : Int) := by omega
            have hg : decide ((0 : Int) < ((k + 1 : Nat) : Int)) = true := by simp
            by_cases hxx : x ≤ x'
            · have hd := Lib.hid (show mayFrom (ahead l (k + 1)) (l.drop (k + 1)) = false by rw [may_drop hp, hah.out, decide_eq_false (by omega), Bool.false_and])
              clear hp hq ha h0 h1 c1'
              go_wp2
              go_quiet (fail)
              go_wp2
              go_ret
              exact ⟨ret_bool (a := false) (by rw [hrel.out, hd.out]), hx.drewN _⟩
            · have hd := Lib.hid (show mayFrom (ahead l (k + 1)) (l.drop (k + 1)) = mayFrom (ahead l (k + 1 + 1)) (l.drop (k + 1 + 1)) by rw [may_drop hp, hah.out, decide_eq_true (by omega), Bool.true_and, ahead_succ hp])
              have hle : decide (x ≤ x') = false := by simpa using hxx
              clear hp hq ha h0 h1 c1' hxx
              go_wp2
              go_quiet (fail)
              go_wp2
              go_roundw
              case rel => exact ⟨k + 1 + 1, by omega, by go_num, Lib.hid (by rw [hrel.out, hd.out]), hx.drewN _⟩
              case measure => simp [intOf]; omega
    · have hz := Lib.hid (show mayFrom (ahead l k) (l.drop k) = true from may_end (by rw [hn.out]; omega) _)
      go_wp2
      go_ret
      exact ⟨ret_bool (a := true) (by rw [hrel.out, hz.out]), hx⟩

def RetTq (w : World) (t : List It × List It × List (Int × Int)) (e : Ending) (w' : World) : Prop :=
  ∃ (Aa : Option Addr) (ca : Nat) (Ab : Option Addr) (cb : Nat) (A : Option Addr) (c : Nat), e = .returned (.tuple #[.slice Aa t.1.length ca, .slice Ab t.2.1.length cb, .slice A t.2.2.length c]) ∧ t.1.length ≤ ca ∧ t.2.1.length ≤ cb ∧ t.2.2.length ≤ c ∧ ItS w' Aa t.1 ∧ ItS w' Ab t.2.1 ∧ Vec w' A t.2.2 ∧ Ext w w'
structure PdK : Prop where
  ready : ∀ (A : Option Addr) (n cap : Nat) (V : List (Int × Int)) (x : It) (W : World), Vec W A V → V.length = n → n ≤ cap → mayFrom 0 V = true → wfC V → n ≤ 900 → wfI x → okW x →
    Calls Try.prog 8 #[.slice A n cap, itv x] W fun e w' => e = .returned (.bool (rdyI V x)) ∧ Ext W w'
  take : ∀ (A B : Option Addr) (n cap m capm : Nat) (V : List (Int × Int)) (L : List It) (W : World), Vec W A V → V.length = n → n ≤ cap → mayFrom 0 V = true → wfC V → ItS W B L → L.length = m → m ≤ capm → n + m ≤ 900 → apartI L → (∀ x ∈ L, wfI x ∧ okW x ∧ nextOf V x.c ≤ x.k) →
    Calls Try.prog 10 #[.slice A n cap, .slice B m capm] W (RetTq W (takeI V L))

def l10a : It := ⟨1, 1, 0, 0, 0, 0, 0⟩
def l10b : It := ⟨1, 0, 0, 0, 0, 0, 0⟩
theorem take10 : takeI [] [l10a, l10b] = ([l10b, l10a], [], [(1, 2)]) := by rfl
theorem ItS.newP {W : World} {s : Nat} (cs : Array Value) (l : List It) (hl : cs.toList = flat encI l) (h : W.heap.size = s) : ItS (W.alloc (.cells cs 32)) (some ⟨s, 0, none⟩) l := by
  unfold ItS
  rw [← hl, ← h]
  exact Row.new W cs 32
theorem BoxI.cellsP {W : World} {q : Nat} {x : It} (h : BoxI W q x) : W.cell? ⟨q, 0, none⟩ = some (Vu x.c) ∧ W.cell? ⟨q, 1, none⟩ = some (Vu x.k) ∧ W.cell? ⟨q, 2, none⟩ = some (Vu x.lc) ∧ W.cell? ⟨q, 3, none⟩ = some (Vu x.lk) ∧ W.cell? ⟨q, 4, none⟩ = some (Vu x.rc) ∧ W.cell? ⟨q, 5, none⟩ = some (Vu x.rk) ∧ W.cell? ⟨q, 6, none⟩ = some (.int .i32 x.ch) := by
  have h' := h.cells
  exact ⟨by simpa using h'.c0, by simpa using h'.c1, by simpa using h'.c2, by simpa using h'.c3, by simpa using h'.c4, by simpa using h'.c5, by simpa using h'.c6⟩

set_option maxRecDepth 100000 in
set_option maxHeartbeats 4000000 in
theorem up10_any (K : PdK) (w : World) : Calls Try.prog 5 #[] w fun e w' => e = .returned (.bool true) ∧ Ext w w' := by
  go_enter Try.func5, Try.ntmps5
  go_wp2_with fail
  have ok10 : ∀ x ∈ [l10a, l10b], wfI x ∧ okW x ∧ nextOf [] x.c ≤ x.k := fun x hx => by
    simp only [List.mem_cons, List.not_mem_nil, or_false] at hx
    rcases hx with rfl | rfl <;> (refine ⟨?_, ?_, ?_⟩ <;> simp [wfI, okW, nextOf, l10a, l10b])
  have ap10 : apartI [l10a, l10b] := by simp [apartI, iid, l10a, l10b]
  have wf0 : wfC [] := fun p hp => by cases hp
  have xa : Ext w (w.alloc (.cells #[.int .u32 1, .int .u32 1, .int .u32 0, .int .u32 0, .int .u32 0, .int .u32 0, .int .i32 0] 32)) := (Ext.refl _).alloc _
  have ba : BoxI (w.alloc (.cells #[.int .u32 1, .int .u32 1, .int .u32 0, .int .u32 0, .int .u32 0, .int .u32 0, .int .i32 0] 32)) w.heap.size l10a := heap_alloc_new w _
  have hsz : (w.alloc (.cells #[.int .u32 1, .int .u32 1, .int .u32 0, .int .u32 0, .int .u32 0, .int .u32 0, .int .i32 0] 32)).heap.size = w.heap.size + 1 := by simp
  generalize w.alloc (.cells #[.int .u32 1, .int .u32 1, .int .u32 0, .int .u32 0, .int .u32 0, .int .u32 0, .int .i32 0] 32) = wa at *
  rw [← hsz]
  have xb : Ext wa (wa.alloc (.cells #[.int .u32 1, .int .u32 0, .int .u32 0, .int .u32 0, .int .u32 0, .int .u32 0, .int .i32 0] 32)) := (Ext.refl _).alloc _
  have bb : BoxI (wa.alloc (.cells #[.int .u32 1, .int .u32 0, .int .u32 0, .int .u32 0, .int .u32 0, .int .u32 0, .int .i32 0] 32)) wa.heap.size l10b := heap_alloc_new wa _
  have hsz2 : (wa.alloc (.cells #[.int .u32 1, .int .u32 0, .int .u32 0, .int .u32 0, .int .u32 0, .int .u32 0, .int .i32 0] 32)).heap.size = wa.heap.size + 1 := by simp
  generalize wa.alloc (.cells #[.int .u32 1, .int .u32 0, .int .u32 0, .int .u32 0, .int .u32 0, .int .u32 0, .int .i32 0] 32) = wb at *
  rw [← hsz2]
  have t := K.take none (some ⟨wb.heap.size, 0, none⟩) 0 0 2 2 [] [l10a, l10b] _ (Vec.nil _ _) rfl (Nat.le_refl _) rfl wf0 (ItS.newP (W := wb) _ [l10a, l10b] rfl rfl) rfl (Nat.le_refl _) (by omega) ap10 ok10
  rw [take10] at t
  refine t.mono ?_
  rintro e w1 ⟨Aa, ca, Ab, cb, A, c, rfl, h1, h2, h3, hI, _, hV, x1⟩
  replace x1 := ((Ext.refl wb).alloc _).trans x1
  replace ba := Lib.hid ((ba.ext xb).ext x1)
  replace bb := Lib.hid (bb.ext x1)
  have hX := (xa.trans xb).trans x1
  clear t xa xb x1 hsz hsz2
  generalize w.heap.size = pa at *
  generalize wa.heap.size = pb at *
  obtain ⟨a0, a1, a2, a3, a4, a5, a6⟩ := ba.out.cellsP
  obtain ⟨b0, b1, b2, b3, b4, b5, b6⟩ := bb.out.cellsP
  replace hI := Lib.hid hI
  replace hV := Lib.hid hV
  replace hX := Lib.hid hX
  go_wp2_with fail
  refine (K.ready none 0 0 [] l10b w1 (Vec.nil _ _) rfl (Nat.le_refl _) rfl wf0 (by omega) (ok10 l10b (by simp)).1 (ok10 l10b (by simp)).2.1).mono ?_
  rintro e w2 ⟨rfl, x2⟩
  rw [show rdyI [] l10b = true from rfl]
  replace a0 := x2.keep a0
  replace a1 := x2.keep a1
  replace a2 := x2.keep a2
  replace a3 := x2.keep a3
  replace a4 := x2.keep a4
  replace a5 := x2.keep a5
  replace a6 := x2.keep a6
  clear b0 b1 b2 b3 b4 b5 b6
  go_wp2_with fail
  refine (K.ready none 0 0 [] l10a w2 (Vec.nil _ _) rfl (Nat.le_refl _) rfl wf0 (by omega) (ok10 l10a (by simp)).1 (ok10 l10a (by simp)).2.1).mono ?_
  rintro e w3 ⟨rfl, x3⟩
  rw [show rdyI [] l10a = false from rfl]
  have x13 := x2.trans x3
  clear a0 a1 a2 a3 a4 a5 a6
  obtain ⟨a0, a1, a2, a3, a4, a5, a6⟩ := (ba.out.ext x13).cellsP
  obtain ⟨b0, b1, b2, b3, b4, b5, b6⟩ := (bb.out.ext x13).cellsP
  go_wp2_with fail
  refine (sameI_any Aa _ 2 ca 2 [l10b, l10a] _ (hI.out.ext (x13.alloc _)) (ItS.newP (W := w3) _ [l10b, l10a] rfl rfl) rfl (by omega)).mono ?_
  rintro e w4 ⟨rfl, x4⟩
  replace x4 := (x13.alloc _).trans x4
  go_wp2_with fail
  refine (nextRef_any A 1 c [(1, 2)] 1 w4 (hV.out.ext x4) rfl (by omega)).mono ?_
  rintro e w5 ⟨rfl, rfl⟩
  rw [show nextOf [(1, 2)] 1 = 2 from rfl]
  go_wp2
  go_ret
  exact ⟨rfl, hX.out.trans x4⟩

end Go.Proofs.Ytdpmhhfpjpdfiaa

namespace Go.Proofs.Ytdpmhhfpjpdfiaa
open Go.ChangeShapes Go.WideShapes Go.ChangeAt Go.RowKit Go.Sort Go.Maps
set_option linter.unusedVariables false
set_option linter.unusedSimpArgs false
set_option linter.unusedSimpArgs false
attribute [local go_sem] World.cell?_alloc_some

def VecT (W : World) (v : Value) (V : List (Int × Int)) : Prop := ∃ A c, v = .slice A V.length c ∧ V.length ≤ c ∧ Vec W A V
theorem VecT.ext {W W' : World} {v : Value} {V : List (Int × Int)} (h : VecT W v V) (hx : Ext W W') : VecT W' v V := by
  obtain ⟨A, c, h1, h2, h3⟩ := h
  exact ⟨A, c, h1, h2, h3.ext hx⟩
theorem tak_wf : ∀ (n : Nat) {v : List (Int × Int)} {l : List It}, wfC v → (∀ x ∈ l, okW x) → wfC (takR n v l).2.2
  | 0, v, l, h, _ => h
  | n + 1, v, l, h, ho => by
    cases hf : fstR v l with
    | none => rw [tak_none hf]; exact h
    | some q =>
      obtain ⟨x, r⟩ := q
      rw [tak_some hf]
      obtain ⟨a, b, e1, e2, _, _⟩ := fst_some hf
      have hx := ho x (by rw [e1]; simp)
      refine tak_wf n (set_wf h (by have := hx.1; omega) hx.2.1 (by have := hx.2.2.1; omega) (by have := hx.2.2.2; omega)) fun y hy => ho y ?_
      rw [e2] at hy
      rw [e1]
      rcases List.mem_append.1 hy with h1 | h1
      · simp [h1]
      · simp [h1]
def pkq0 (W1 : World) (A : Option Addr) (n cap bS pt : Nat) (vo : Value) (O : List It) (Vf : List (Int × Int)) : SoftTab := [(13, fun z9 W => z9 = .pointer (some ⟨pt, 0, none⟩)),
  (14, fun z9 W => z9 = .pointer (some ⟨pt, 0, none⟩)),
  (15, fun z9 W => z9 = .pointer (some ⟨pt, 4, none⟩)),
  (16, fun z9 W => z9 = vo),
  (17, fun z9 W => z9 = .pointer (some ⟨pt, 0, none⟩)),
  (18, fun z9 W => ∃ v9, z9 = v9 ∧ OwnI W1 W v9 O),
  (19, fun z9 W => z9 = .pointer (some ⟨pt, 0, none⟩)),
  (20, fun z9 W => z9 = .pointer (some ⟨pt, 0, none⟩)),
  (21, fun z9 W => z9 = .pointer (some ⟨pt, 0, none⟩)),
  (22, fun z9 W => z9 = knv A n cap (some bS)),
  (23, fun z9 W => ∃ v9, z9 = v9 ∧ VecT W v9 Vf)]
theorem pkq0_mono (W1 : World) (A : Option Addr) (n cap bS pt : Nat) (vo : Value) (O : List It) (Vf : List (Int × Int)) (Rel : World → World → Prop) (hR : ∀ W W', Rel W W' → Ext W W') : SoftMonoR Rel (pkq0 W1 A n cap bS pt vo O Vf) := by
  intro p hp v W W' h hx
  simp only [pkq0, List.mem_cons, List.not_mem_nil, or_false] at hp
  rcases hp with rfl | rfl | rfl | rfl | rfl | rfl | rfl | rfl | rfl | rfl | rfl
  all_goals first
    | exact h
    | exact (by obtain ⟨q, h1, h2⟩ := h; first | exact ⟨q, h1, OwnI.ext h2 (hR _ _ hx)⟩ | exact ⟨q, h1, VecT.ext h2 (hR _ _ hx)⟩)

set_option maxRecDepth 100000 in
set_option maxHeartbeats 8000000 in
theorem take_holds (A B : Option Addr) (n cap m capm : Nat) (V : List (Int × Int)) (L : List It) (w0 : World) (hv : Vec w0 A V) (hn : V.length = n) (hnc : n ≤ cap) (hmV : mayFrom 0 V = true) (hwV : wfC V) (hL : ItS w0 B L) (hm : L.length = m) (hmc : m ≤ capm) (hb : n + m ≤ 900) (hap : apartI L) (hwf : ∀ x ∈ L, wfI x ∧ okW x ∧ nextOf V x.c ≤ x.k) :
    Calls Try.prog 10 #[.slice A n cap, .slice B m capm] w0 (RetTq w0 (takeI V L)) := by
  obtain ⟨Xs, hXe⟩ : ∃ Xs, sortI [] L = Xs := ⟨_, rfl⟩
  have hpm : Xs.Perm L := by rw [← hXe]; simpa using sort_perm L []
  have hXl : Xs.length = m := by rw [hpm.length_eq]; exact hm
  have hwX : ∀ x ∈ Xs, wfI x ∧ okW x ∧ nextOf V x.c ≤ x.k := fun x hx => hwf x (hpm.mem_iff.1 hx)
  have hapX : ∀ (i j : Nat) (x y : It), Xs[i]? = some x → Xs[j]? = some y → iid x = iid y → i = j := fun i j x y hi hj e => by
    have ha := apart_perm hpm.symm hap
    obtain ⟨l1, e1⟩ := List.getElem?_eq_some_iff.1 hi
    obtain ⟨l2, e2⟩ := List.getElem?_eq_some_iff.1 hj
    rcases Nat.lt_trichotomy i j with h | h | h
    · exact absurd e (by have := List.pairwise_iff_getElem.1 ha i j l1 l2 h; rw [e1, e2] at this; exact this)
    · exact h
    · exact absurd e.symm (by have := List.pairwise_iff_getElem.1 ha j i l2 l1 h; rw [e1, e2] at this; exact this)
  obtain ⟨Fr, hFr⟩ : ∃ Fr, takeI V L = Fr := ⟨_, rfl⟩
  have hFr2 : takR Xs.length V Xs = Fr := by rw [← hFr, ← hXe]; unfold takeI; rw [sort_len]
  have hwF : wfC Fr.2.2 := by rw [← hFr2]; exact tak_wf _ hwV fun x hx => (hwX x hx).2.1
  have hnew := Lib.hid (newT_any A B n cap m capm V L w0 hv hn (by omega) hmV hL hm (by omega) hap (fun x hx => (hwf x hx).1))
  rw [hXe] at hnew
  rw [hFr]
  have hC1 : Fr.1.length ≤ Xs.length := by
    have h1 := (tak_is Xs.length V Xs (Nat.le_refl _)).2.1.length_eq
    rw [hFr2, List.length_append] at h1
    omega
  replace hn := Lib.hid hn
  replace hXl := Lib.hid hXl
  replace hwX := Lib.hid hwX
  replace hapX := Lib.hid hapX
  replace hFr2 := Lib.hid hFr2
  replace hwF := Lib.hid hwF
  replace hwV := Lib.hid hwV
  clear hap hwf hL hm hXe hpm hFr
  go_enter Try.func10, Try.ntmps10
  go_wp2_with fail
  refine hnew.out.mono ?_
  rintro e w1 ⟨pt, g, hs, rfl, hTk, hpl⟩
  have hI := tInv_start (V := V) (Xs := Xs) hmV fun x hx => (hwX.out x hx).2
  have e1 : plW g.Wt = _ := congrArg Prod.fst hpl
  have e2 : hs = _ := congrArg Prod.snd hpl
  rw [← e1, ← e2] at hI
  have hall : AllRel w0 pt A n cap V Xs Fr w1 := ⟨V, _, [], hs, g, Lib.hid hTk, Lib.hid hI, Lib.hid (by simp [ncs_all]), Lib.hid (by rw [ncs_all, hFr2.out]; exact ⟨by simp, rfl⟩)⟩
  have hta := Lib.hid (takeAll_any w0 w1 pt A n cap V Xs Fr hall hn.out hmV (by omega) (by rw [hXl.out]; omega) hapX.out (fun y hy => ⟨(hwX.out y hy).1, (hwX.out y hy).2.1⟩))
  clear hTk hpl hI e1 e2 hall
  go_wp2_with fail
  refine hta.out.mono ?_
  rintro e W1 ⟨rfl, bs, g1, hT, hbl, hnc', hmF⟩
  have hot := Lib.hid (fun (W2 : World) (hx : Ext W1 W2) => (others_any w0 W2 pt A n cap V Fr.2.2 Xs bs Fr.1 [] g1 (hT.ext hx) hbl (by rw [hXl.out]; omega)).mono fun e W3 h => (by
    obtain ⟨v, h1, h2, h3⟩ := h
    rw [hnc'] at h2
    exact ⟨v, h1, ⟨v, rfl, OwnI.down h2 hx⟩, h3⟩ : ∃ v, e = .returned v ∧ (∃ v9, v = v9 ∧ OwnI W1 W3 v9 Fr.2.1) ∧ Ext W2 W3))
  obtain ⟨bS, hbS⟩ : ∃ bS, g1.bS = bS := ⟨_, rfl⟩
  have hve := Lib.hid (fun (W2 : World) (hx : Ext W1 W2) => (by
    obtain ⟨nn, D, hnn, hM, hV⟩ := (hT.ext hx).kn
    rw [hbS] at hM
    exact (vector_any A n cap bS nn D V Fr.2.2 W2 (hT.vec.ext (hT.low.trans hx)) hn.out hnc hmV hwV.out hmF hwF.out hM hV (by have := hXl.out; omega)).mono fun e W3 h => (by
      obtain ⟨A9, n9, c9, h1, h2, h3, h4, h5⟩ := h
      exact ⟨_, h1, ⟨_, rfl, A9, c9, by rw [h2], by omega, h3⟩, h4⟩ : ∃ v, e = .returned v ∧ (∃ v9, v = v9 ∧ VecT W3 v9 Fr.2.2) ∧ Ext W2 W3) : Calls Try.prog 20 #[knv A n cap (some bS)] W2 fun e W3 => ∃ v, e = .returned v ∧ (∃ v9, v = v9 ∧ VecT W3 v9 Fr.2.2) ∧ Ext W2 W3))
  obtain ⟨vo, hvo⟩ : ∃ vo, g1.vo = vo := ⟨_, rfl⟩
  have t0 : W1.cell? ⟨pt, 0, none⟩ = some (.slice A n cap) := hT.tb.cell rfl
  have t1 : W1.cell? ⟨pt, 1, none⟩ = some (.map (some bS)) := by rw [← hbS]; exact hT.tb.cell rfl
  have t4 : W1.cell? ⟨pt, 4, none⟩ = some vo := by rw [← hvo]; exact hT.tb.cell rfl
  have hco := Lib.hid (hvo ▸ hT.come)
  have hlow := Lib.hid hT.low
  obtain ⟨O, hO⟩ : ∃ O, Fr.2.1 = O := ⟨_, rfl⟩
  obtain ⟨Vf, hVf⟩ : ∃ Vf, Fr.2.2 = Vf := ⟨_, rfl⟩
  rw [hO] at hot
  rw [hVf] at hve
  replace hO := Lib.hid hO
  replace hVf := Lib.hid hVf
  clear hT hbl hnc' hvo hbS hta hnew
  go_upto_region 3 with fail
  refine wp_soft_frame Ext 11 (pkq0 W1 A n cap bS pt vo O Vf) (by kernel_rfl) (by kernel_rfl) (fun _ _ _ => Ext.trans) ((Ext.refl _).drew) rfl (by show List.Nodup [13, 14, 15, 16, 17, 18, 19, 20, 21, 22, 23]; decide) (by show ∀ d ∈ [13, 14, 15, 16, 17, 18, 19, 20, 21, 22, 23], d < 24; decide) (pkq0_mono W1 A n cap bS pt vo O Vf Ext (fun _ _ h => h)) ?_ ⟨?_, ?_, ?_, ?_, ?_, ?_, ?_, ?_, ?_, ?_, ?_, trivial⟩
  · intro W vs hT hR
    match vs, hT with
    | [v0, v1, v2, v3, v4, v5, v6, v7, v8, v9, v10], ⟨e0, e1, e2, e3, e4, e5, e6, e7, e8, e9, e10, _⟩ =>
      simp only [pkq0, List.map_cons, List.map_nil, List.zip_cons_cons, List.zip_nil_left, putAll, List.setIfInBounds_toArray, List.set_cons_zero, List.set_cons_succ, List.drop_succ_cons, List.drop_zero]
      simp only at e0 e1 e2 e3 e4 e6 e7 e8 e9
      obtain ⟨q5, e5, h5⟩ := e5
      obtain ⟨q10, e10, h10⟩ := e10
      rw [e0, e1, e2, e3, e4, e5, e6, e7, e8, e9, e10]
      clear e0 e1 e2 e3 e4 e5 e6 e7 e8 e9 e10 v0 v1 v2 v3 v4 v5 v6 v7 v8 v9 v10
      obtain ⟨Aa, ca, ea, hca, hIa⟩ := hco.out.open
      obtain ⟨Ab, cb, eb, hcb, hIb⟩ := OwnI.open h5
      obtain ⟨Av, cv, ev, hcv, hVv⟩ := h10
      subst ea eb ev
      have hIa' := hIa.ext hR
      have hlo := hlow.out.trans hR
      replace hca := Lib.hid hca
      replace hcb := Lib.hid hcb
      replace hcv := Lib.hid hcv
      go_wp2_with fail
      have hO' := hO.out
      have hVf' := hVf.out
      subst hO'
      subst hVf'
      exact bodyPost_ret (v := .tuple #[.slice Aa Fr.1.length ca, .slice Ab Fr.2.1.length cb, .slice Av Fr.2.2.length cv]) (by simp [results, Try.results10, go_sem]) rfl ⟨Aa, ca, Ab, cb, Av, cv, rfl, hca.out, hcb.out, hcv.out, hIa', hIb, hVv, hlo⟩
  · refine softR_val 13 _ (by kernel_rfl) rfl rfl ?_
    intro a W hx hout hdep
    have ev7 : a.tmps[7]?.getD undef = .pointer (some ⟨pt, 0, none⟩) := by rw [← Array.getD_eq_getD_getElem?]; exact hout 7 (by show 7 ∉ [13, 14, 15, 16, 17, 18, 19, 20, 21, 22, 23]; decide)
    refine ⟨rfl, .pointer (some ⟨pt, 0, none⟩), W, ?_, rfl, Ext.refl _⟩
    simp [ev7, execOp, go_sem]
  · refine softR_val 14 _ (by kernel_rfl) rfl rfl ?_
    intro a W hx hout hdep
    have ev13 : a.tmps[13]?.getD undef = .pointer (some ⟨pt, 0, none⟩) := by rw [← Array.getD_eq_getD_getElem?]; exact (hdep ⟨0, .data⟩ (by simp) rfl 13 _ rfl).1
    refine ⟨rfl, .pointer (some ⟨pt, 0, none⟩), W, ?_, rfl, Ext.refl _⟩
    simp [ev13, execOp, go_sem]
  · refine softR_val 15 _ (by kernel_rfl) rfl rfl ?_
    intro a W hx hout hdep
    have ev14 : a.tmps[14]?.getD undef = .pointer (some ⟨pt, 0, none⟩) := by rw [← Array.getD_eq_getD_getElem?]; exact (hdep ⟨1, .data⟩ (by simp) rfl 14 _ rfl).1
    refine ⟨rfl, .pointer (some ⟨pt, 4, none⟩), W, ?_, rfl, Ext.refl _⟩
    simp [ev14, execOp, go_sem]
  · refine softR_val 16 _ (by kernel_rfl) rfl rfl ?_
    intro a W hx hout hdep
    have ev15 : a.tmps[15]?.getD undef = .pointer (some ⟨pt, 4, none⟩) := by rw [← Array.getD_eq_getD_getElem?]; exact (hdep ⟨2, .data⟩ (by simp) rfl 15 _ rfl).1
    have q0 := hx.keep t4
    refine ⟨rfl, vo, W, ?_, rfl, Ext.refl _⟩
    simp [ev15, q0, execOp, go_sem]
  · refine softR_val 17 _ (by kernel_rfl) rfl rfl ?_
    intro a W hx hout hdep
    have ev7 : a.tmps[7]?.getD undef = .pointer (some ⟨pt, 0, none⟩) := by rw [← Array.getD_eq_getD_getElem?]; exact hout 7 (by show 7 ∉ [13, 14, 15, 16, 17, 18, 19, 20, 21, 22, 23]; decide)
    refine ⟨rfl, .pointer (some ⟨pt, 0, none⟩), W, ?_, rfl, Ext.refl _⟩
    simp [ev7, execOp, go_sem]
  · refine softR_call 18 _ (by kernel_rfl) rfl rfl ?_
    intro a W hx hout hdep
    have ev17 : a.tmps[17]?.getD undef = .pointer (some ⟨pt, 0, none⟩) := by rw [← Array.getD_eq_getD_getElem?]; exact (hdep ⟨4, .data⟩ (by simp) rfl 17 _ rfl).1
    refine ⟨rfl, 19, #[.pointer (some ⟨pt, 0, none⟩)], ?_, ?_⟩
    · simp [ev17, execOp, go_sem]
    · exact (hot.out W hx)
  · refine softR_val 19 _ (by kernel_rfl) rfl rfl ?_
    intro a W hx hout hdep
    have ev7 : a.tmps[7]?.getD undef = .pointer (some ⟨pt, 0, none⟩) := by rw [← Array.getD_eq_getD_getElem?]; exact hout 7 (by show 7 ∉ [13, 14, 15, 16, 17, 18, 19, 20, 21, 22, 23]; decide)
    refine ⟨rfl, .pointer (some ⟨pt, 0, none⟩), W, ?_, rfl, Ext.refl _⟩
    simp [ev7, execOp, go_sem]
  · refine softR_val 20 _ (by kernel_rfl) rfl rfl ?_
    intro a W hx hout hdep
    have ev19 : a.tmps[19]?.getD undef = .pointer (some ⟨pt, 0, none⟩) := by rw [← Array.getD_eq_getD_getElem?]; exact (hdep ⟨6, .data⟩ (by simp) rfl 19 _ rfl).1
    refine ⟨rfl, .pointer (some ⟨pt, 0, none⟩), W, ?_, rfl, Ext.refl _⟩
    simp [ev19, execOp, go_sem]
  · refine softR_val 21 _ (by kernel_rfl) rfl rfl ?_
    intro a W hx hout hdep
    have ev20 : a.tmps[20]?.getD undef = .pointer (some ⟨pt, 0, none⟩) := by rw [← Array.getD_eq_getD_getElem?]; exact (hdep ⟨7, .data⟩ (by simp) rfl 20 _ rfl).1
    refine ⟨rfl, .pointer (some ⟨pt, 0, none⟩), W, ?_, rfl, Ext.refl _⟩
    simp [ev20, execOp, go_sem]
  · refine softR_val 22 _ (by kernel_rfl) rfl rfl ?_
    intro a W hx hout hdep
    have ev21 : a.tmps[21]?.getD undef = .pointer (some ⟨pt, 0, none⟩) := by rw [← Array.getD_eq_getD_getElem?]; exact (hdep ⟨8, .data⟩ (by simp) rfl 21 _ rfl).1
    have q0 := hx.keep t0
    have q1 := hx.keep t1
    refine ⟨rfl, knv A n cap (some bS), W, ?_, rfl, Ext.refl _⟩
    simp [ev21, q0, q1, execOp, go_sem]
  · refine softR_call 23 _ (by kernel_rfl) rfl rfl ?_
    intro a W hx hout hdep
    have ev22 : a.tmps[22]?.getD undef = knv A n cap (some bS) := by rw [← Array.getD_eq_getD_getElem?]; exact (hdep ⟨9, .data⟩ (by simp) rfl 22 _ rfl).1
    refine ⟨rfl, 20, #[knv A n cap (some bS)], ?_, ?_⟩
    · simp [ev22, execOp, go_sem]
    · exact (hve.out W hx)

end Go.Proofs.Ytdpmhhfpjpdfiaa

namespace Go.Proofs.Ytdpmhhfpjpdfiaa
open Go.ChangeShapes Go.WideShapes Go.ChangeAt Go.RowKit
theorem pend_K : PdK where
  ready := fun A n cap V x W hv hn _ hm _ hb hx _ => ready_any A n cap V x W hv hn hm (by omega) hx
  take := fun A B n cap m capm V L W hv hn hnc hm hwf hL hl hmc hb hap hw => take_holds A B n cap m capm V L W hv hn hnc hm hwf hL hl hmc hb hap hw

end Go.Proofs.Ytdpmhhfpjpdfiaa

namespace Go.Proofs.Ytdpmhhfpjpdfiaa
open Go.ChangeShapes Go.WideShapes Go.ChangeAt Go.RowKit Go.Sort
set_option linter.unusedVariables false
set_option linter.unusedSimpArgs false
attribute [local go_sem] World.cell?_alloc_some

def wtB (v : List (Int × Int)) (x : It) : Bool := decide (x.c ≠ 0) && decide (x.k ≤ 4294967294) && decide (nextOf v x.c ≤ x.k)
def stepW (v : List (Int × Int)) (out : List It) (x : It) : List It := if wtB v x && !hasI out (iid x) then out ++ [x] else out
def wtI (v : List (Int × Int)) (l : List It) : List It := l.foldl (stepW v) []
theorem wt_snoc (v : List (Int × Int)) (l : List It) (x : It) : wtI v (l ++ [x]) = stepW v (wtI v l) x := by unfold wtI; rw [List.foldl_append]; rfl
theorem wt_take {v : List (Int × Int)} {l : List It} {j : Nat} {x : It} (h : l[j]? = some x) : wtI v (l.take (j + 1)) = stepW v (wtI v (l.take j)) x := by
  obtain ⟨hk, e⟩ := List.getElem?_eq_some_iff.1 h
  rw [List.take_succ_eq_append_getElem hk, e, wt_snoc]
theorem wt_len (v : List (Int × Int)) (l : List It) : (wtI v l).length ≤ l.length := by
  refine snoc_ind (P := fun l => (wtI v l).length ≤ l.length) (Nat.le_refl _) (fun l x ih => ?_) l
  rw [wt_snoc]
  unfold stepW
  rw [List.length_append]
  split
  · rw [List.length_append]; simp; omega
  · simp; omega
theorem wt_mem {v : List (Int × Int)} {l : List It} : ∀ x ∈ wtI v l, x ∈ l ∧ wtB v x = true := by
  refine snoc_ind (P := fun l => ∀ x ∈ wtI v l, x ∈ l ∧ wtB v x = true) (fun x h => by cases h) (fun l y ih x hx => ?_) l
  rw [wt_snoc] at hx
  unfold stepW at hx
  split at hx
  · rename_i g
    rcases List.mem_append.1 hx with hx | hx
    · exact ⟨List.mem_append_left _ (ih x hx).1, (ih x hx).2⟩
    · rcases List.mem_singleton.1 hx with rfl
      rw [Bool.and_eq_true] at g
      exact ⟨by simp, g.1⟩
  · exact ⟨List.mem_append_left _ (ih x hx).1, (ih x hx).2⟩
theorem wt_apart (v : List (Int × Int)) (l : List It) : apartI (wtI v l) := by
  refine snoc_ind (P := fun l => apartI (wtI v l)) .nil (fun l x ih => ?_) l
  rw [wt_snoc]
  unfold stepW
  split
  · rename_i g
    rw [Bool.and_eq_true] at g
    refine List.pairwise_append.2 ⟨ih, by simp, fun y hy z hz e => ?_⟩
    rcases List.mem_singleton.1 hz with rfl
    have : hasI (wtI v l) (iid z) = true := has_iffI.2 ⟨y, hy, e⟩
    rw [this] at g
    simp at g
  · exact ih
theorem wt_ok {v : List (Int × Int)} {l : List It} (hw : ∀ x ∈ l, wfI x) : ∀ x ∈ wtI v l, okW x ∧ nextOf v x.c ≤ x.k := fun x hx => by
  obtain ⟨h1, h2⟩ := wt_mem x hx
  have hwx := hw x h1
  unfold wfI at hwx
  unfold wtB at h2
  simp only [Bool.and_eq_true, decide_eq_true_eq] at h2
  exact ⟨⟨by omega, hwx.2.1, hwx.2.2.1, h2.1.2⟩, h2.2⟩
theorem has_take {l : List It} {k : Nat} {y : It} {a : I2} (h : l[k]? = some y) : hasI (l.take (k + 1)) a = (hasI (l.take k) a || decide (iid y = a)) := by
  obtain ⟨hk, e⟩ := List.getElem?_eq_some_iff.1 h
  rw [List.take_succ_eq_append_getElem hk, e, has_snoc]
theorem idW_neq (a b c d : Int) (W : World) : (binOp .neq 30 (.agg #[.int .u32 a, .int .u32 b]) (.agg #[.int .u32 c, .int .u32 d])).run Try.prog W = .ok (.bool (!decide (((a, b) : I2) = (c, d)))) W := by
  by_cases h1 : a = c
  · by_cases h2 : b = d
    · subst h1; subst h2; simp [go_sem]
    · have : (b == d) = false := by simpa using h2
      subst h1
      simp [go_sem, this, h2]
  · have : (a == c) = false := by simpa using h1
    simp [go_sem, this, h1]

set_option maxRecDepth 100000 in
set_option maxHeartbeats 8000000 in
theorem waiting_any (A B : Option Addr) (n cap m capm : Nat) (v : List (Int × Int)) (L : List It) (w : World) (hv : Vec w A v) (hn : v.length = n) (hu : ItS w B L) (hm : L.length = m) (hb : n ≤ 1000) (hb2 : m ≤ 1000) :
    Calls Try.prog 7 #[.slice A n cap, .slice B m capm] w (RetI w (wtI v L)) := by
  replace hn := Lib.hid hn
  replace hv := Lib.hid hv
  replace hm := Lib.hid hm
  replace hu := Lib.hid hu
  go_enter Try.func7, Try.ntmps7
  go_wp2
  go_loopw [5, 6] (fun o i W => ∃ (j : Nat), j ≤ m ∧ i = Vi j ∧ Hid (OwnI w W o (wtI v (L.take j))) ∧ Ext w W) (fun _ i _ => m - (intOf i).toNat)
  case atStart => exact ⟨0, Nat.zero_le _, rfl, Lib.hid (OwnI.nil _ _), Ext.refl _⟩
  case round =>
    obtain ⟨j, hj, rfl, ho, hx⟩ := hrel
    by_cases hlt : j < m
    · obtain ⟨b, o, x, hA, hp, d⟩ := (hu.out.ext hx).at (k := j) (by rw [hm.out]; exact hlt)
      obtain ⟨d0, d1, d2, d3, d4, d5, d6⟩ := d
      have hi1 : (0 : Int) ≤ (j : Int) := by omega
      have hi2 : (j : Int) < (m : Int) := by omega
      have hst := Lib.hid (wt_take (v := v) hp)
      have hol : (wtI v (L.take j)).length ≤ j := by have := wt_len v (L.take j); rw [List.length_take] at this; omega
      subst hA
      clear hp
      obtain ⟨Ao, co, rfl, hco, hI⟩ := ho.out.open
      generalize wtI v (L.take j) = out at *
      obtain ⟨q, hq⟩ : ∃ q, out.length = q := ⟨_, rfl⟩
      rw [hq] at hol ho hco ⊢
      replace hq := Lib.hid hq
      replace hI := Lib.hid hI
      have hx := Lib.hid hx
      generalize hwo : wr = wo at *
      clear hwo
      have hcall := Lib.hid (fun (c : Int) (W : World) (hW : Ext wo W) => nextRef_any A n cap v c W (hv.out.ext (hx.out.trans hW)) hn.out hb)
      go_upto_region 5 with fail
      go_cut [7] (fun s wx => s = .bool (wtB v x) ∧ Hid (Ext wo wx))
      case first =>
        cases g0 : (x.c != 0) with
        | false =>
          have e0 : x.c = 0 := by simpa using g0
          have hfin := Lib.hid (show Value.bool false = Value.bool (wtB v x) by unfold wtB; simp [e0])
          clear e0
          go_wp2_with fail
          have q0 := cell_regrown d0
          have q1 := cell_regrown d1
          refine wp_region_quiet_below (by kernel_rfl) (by kernel_rfl) ?_
          repeat go_big_quiet_step ((with_reducible exact Calls.same_regrown (hcall.out _ _ (Ext.regrown _ _ _))))
          refine wpQuiet_nil ?_
          intro _ hw'
          obtain ⟨⟨dq, osq⟩, hw''⟩ := hw'
          subst hw''
          go_wp2_with fail
          go_meet
          exact ⟨hfin.out, Lib.hid (Ext.regrown _ _ _)⟩
        | true =>
          have e0 : x.c ≠ 0 := by simpa using g0
          cases g1 : decide (x.k ≤ 4294967294) with
          | false =>
            have e1 : ¬ x.k ≤ 4294967294 := of_decide_eq_false g1
            have hfin := Lib.hid (show Value.bool false = Value.bool (wtB v x) by unfold wtB; simp [e0, e1])
            clear e0 e1
            go_wp2_with fail
            have q0 := cell_regrown d0
            have q1 := cell_regrown d1
            refine wp_region_quiet_below (by kernel_rfl) (by kernel_rfl) ?_
            repeat go_big_quiet_step ((with_reducible exact Calls.same_regrown (hcall.out _ _ (Ext.regrown _ _ _))))
            refine wpQuiet_nil ?_
            intro _ hw'
            obtain ⟨⟨dq, osq⟩, hw''⟩ := hw'
            subst hw''
            go_wp2_with fail
            go_meet
            exact ⟨hfin.out, Lib.hid (Ext.regrown _ _ _)⟩
          | true =>
            have e1 : x.k ≤ 4294967294 := of_decide_eq_true g1
            have hfin := Lib.hid (show Value.bool (decide (nextOf v x.c ≤ x.k)) = Value.bool (wtB v x) by unfold wtB; simp [e0, e1])
            clear e0 e1
            go_wp2_with fail
            have q0 := cell_regrown d0
            have q1 := cell_regrown d1
            refine wp_region_quiet_below (by kernel_rfl) (by kernel_rfl) ?_
            repeat go_big_quiet_step ((with_reducible exact Calls.same_regrown (hcall.out _ _ (Ext.regrown _ _ _))))
            refine wpQuiet_nil ?_
            intro _ hw'
            obtain ⟨⟨dq, osq⟩, hw''⟩ := hw'
            subst hw''
            go_wp2_with fail
            go_meet
            exact ⟨hfin.out, Lib.hid (Ext.regrown _ _ _)⟩
      case rest =>
        obtain ⟨rfl, hxc⟩ := hcut
        obtain ⟨bb, hbb⟩ : ∃ bb, wtB v x = bb := ⟨_, rfl⟩
        rw [hbb]
        replace hbb := Lib.hid hbb
        clear hcall
        have hneq := fun (y : It) (W : World) => idW_neq y.c y.k x.c x.k W
        go_wp2_with fail
        go_loopw [7, 8] (fun s i W => ∃ (k : Nat), k ≤ q ∧ i = Vi k ∧ s = .bool (bb && !hasI (out.take k) (iid x)) ∧ Ext wo W) (fun _ i _ => q - (intOf i).toNat)
        case atStart => exact ⟨0, Nat.zero_le _, rfl, by simp [hasI], hxc.out⟩
        case round =>
          obtain ⟨k, hk, rfl, rfl, hx2⟩ := hrel
          by_cases hlt2 : k < q
          · obtain ⟨b', o', y, hB, hz, dz⟩ := (hI.out.ext hx2).at (k := k) (by rw [hq.out]; exact hlt2)
            have hk1 : (0 : Int) ≤ (k : Int) := by omega
            have hk2 : (k : Int) < (q : Int) := by omega
            have q0 := hx2.keep d0
            have q1 := hx2.keep d1
            have y0 := dz.c0
            have y1 := dz.c1
            have ht := has_take (a := iid x) hz
            subst hB
            clear hz dz
            cases hg : (bb && !hasI (out.take k) (iid x)) with
            | false =>
              have hfin := Lib.hid (show Value.bool false = .bool (bb && !hasI (out.take (k + 1)) (iid x)) by
                rw [ht]
                cases bb
                · rfl
                · simp only [Bool.true_and] at hg ⊢; rw [Bool.not_or, hg]; rfl)
              clear hg ht
              go_wp2
              go_quiet (fail)
              go_wp2
              go_roundw
              case rel => exact ⟨k + 1, by omega, by go_num, hfin.out, hx2.drewN _⟩
              case measure => simp [intOf]; omega
            | true =>
              have hfin := Lib.hid (show Value.bool (!decide (y.c = x.c) || !decide (y.k = x.k)) = .bool (bb && !hasI (out.take (k + 1)) (iid x)) by
                have e : decide (iid y = iid x) = (decide (y.c = x.c) && decide (y.k = x.k)) := by simp [iid, Prod.ext_iff]
                rw [ht, e]
                rw [Bool.and_eq_true] at hg
                rw [hg.1, Bool.not_or, hg.2]
                simp)
              have hny := hneq y
              clear hg ht
              go_wp2
              go_quiet (fail)
              go_wp2
              go_roundw
              case rel => exact ⟨k + 1, by omega, by go_num, hfin.out, hx2.drewN _⟩
              case measure => simp [intOf]; omega
          · have hfull := Lib.hid (show out.take k = out from List.take_of_length_le (by rw [hq.out]; omega))
            rw [hfull.out]
            cases hg : (bb && !hasI out (iid x)) with
            | false =>
              have hs := Lib.hid (show wtI v (L.take (j + 1)) = out by rw [hst.out, stepW, hbb.out, hg]; rfl)
              have hO := Lib.hid (ho.out.ext hx2)
              clear hg hst hfull
              go_wp2
              go_roundw
              case rel => exact ⟨j + 1, by omega, by go_num, Lib.hid (by rw [hs.out]; exact hO.out), hx.out.trans hx2⟩
              case measure => simp [intOf]; omega
            | true =>
              have hs := Lib.hid (show wtI v (L.take (j + 1)) = out ++ [x] by rw [hst.out, stepW, hbb.out, hg]; rfl)
              have hO := ho.out.ext hx2
              have c0 := hx2.keep d0
              have c1 := hx2.keep d1
              have c2 := hx2.keep d2
              have c3 := hx2.keep d3
              have c4 := hx2.keep d4
              have c5 := hx2.keep d5
              have c6 := hx2.keep d6
              have hX := hx.out.trans hx2
              clear hg hst hfull d0 d1 d2 d3 d4 d5 d6
              go_wp2_with (first
              | (at_builtin
                 refine wpList_append_I (w0 := w) rfl (.tmp 69) (.tmp 74) rfl _ out rfl (hO.ext ((Ext.refl wr).alloc _)) (hX.alloc _) _ 1 1 [x] rfl rfl (ItS.new wr x) (by rw [hq.out]; simp only [List.length_cons, List.length_nil]; omega) ?_
                 intro v3 w3 o3 x3 g3 e3)
              | fail)
              go_roundw
              case rel => exact ⟨j + 1, by omega, by go_num, Lib.hid (by rw [hs.out]; exact o3), x3⟩
              case measure => simp [intOf]; omega
    · have hfull := Lib.hid (show L.take j = L from List.take_of_length_le (by rw [hm.out]; omega))
      rw [hfull.out] at ho
      go_wp2
      go_ret
      exact ⟨_, rfl, ho.out, hx⟩

end Go.Proofs.Ytdpmhhfpjpdfiaa

namespace Go.Proofs.Ytdpmhhfpjpdfiaa
open Go.ChangeShapes Go.WideShapes Go.ChangeAt Go.RowKit Go.Sort
set_option linter.unusedVariables false
set_option linter.unusedSimpArgs false
attribute [local go_sem] World.cell?_alloc_some

theorem take_lens {v : List (Int × Int)} {l : List It} (ha : apartI l) (hv : mayFrom 0 v = true) (hw : wfC v) (ho : ∀ x ∈ l, okW x) :
    (takeI v l).1.length + (takeI v l).2.1.length = l.length ∧ (takeI v l).2.2.length ≤ v.length + l.length ∧ mayFrom 0 (takeI v l).2.2 = true ∧ wfC (takeI v l).2.2 ∧ (∀ x ∈ (takeI v l).2.1, x ∈ l) ∧ ∀ x ∈ (takeI v l).2.1, rdyI (takeI v l).2.2 x = false := by
  have h := take_is (v := v) ha
  have hl := h.perm.length_eq
  rw [List.length_append] at hl
  obtain ⟨h1, h2, h3⟩ := run_vec h.run hv hw fun x hx => ho x (h.perm.mem_iff.1 (List.mem_append_left _ hx))
  exact ⟨hl, by omega, h1, h2, fun x hx => h.perm.mem_iff.1 (List.mem_append_right _ hx), h.none⟩

set_option maxRecDepth 100000 in
set_option maxHeartbeats 8000000 in
theorem pendTells_walk (K : PdK) (A B : Option Addr) (n ca m cb : Nat) (v : List (Int × Int)) (L : List It) (w : World) (hv : Vec w A v) (hu : ItS w B L) (hn : v.length = n) (hm : L.length = m) (hca : n ≤ ca) (hcb : m ≤ cb) (hwv : wfC v) (hwl : ∀ x ∈ L, wfI x) (hn1 : n ≤ maxLen) :
    Calls Try.prog 3 #[.slice A n ca, .slice B m cb] w fun e w' => e = .returned (.bool true) ∧ Ext w w' := by
  unfold maxLen at hn1
  obtain ⟨t, ht⟩ : ∃ t, mayFrom 0 v = t := ⟨_, rfl⟩
  have hmay := Lib.hid (fun (W : World) (hW : Ext w W) => ht ▸ mayRef_big A n ca v W (hv.ext hW) hn hwv (by omega))
  replace hv := Lib.hid hv
  replace hu := Lib.hid hu
  replace hn := Lib.hid hn
  replace hm := Lib.hid hm
  replace hwv := Lib.hid hwv
  replace hwl := Lib.hid hwl
  replace ht := Lib.hid ht
  go_enter Try.func3, Try.ntmps3
  go_wp2_with fail
  refine (up10_any K _).mono ?_
  rintro e w1 ⟨rfl, x1⟩
  go_wp2_with fail
  refine (hmay.out _ x1).mono ?_
  rintro e w2 ⟨rfl, x2⟩
  replace x2 := x1.trans x2
  clear x1 hmay
  by_cases h20 : 20 < n
  · go_wp2
    go_ret
    exact ⟨rfl, x2⟩
  by_cases h60 : 60 < m
  · go_wp2
    go_ret
    exact ⟨rfl, x2⟩
  cases t with
  | false =>
    go_wp2
    go_ret
    exact ⟨rfl, x2⟩
  | true =>
    go_wp2_with fail
    refine (waiting_any A B n ca m cb v L _ (hv.out.ext x2) hn.out (hu.out.ext x2) hm.out (by omega) (by omega)).mono ?_
    rintro e w3 ⟨mv, rfl, o3, x3⟩
    obtain ⟨Am, cm, rfl, hcm, hI⟩ := o3.open
    replace x3 := Lib.hid (x2.trans x3)
    have hap := Lib.hid (wt_apart v L)
    have hwk := Lib.hid (fun x hx => (⟨hwl.out x (wt_mem x hx).1, wt_ok hwl.out x hx⟩ : wfI x ∧ okW x ∧ nextOf v x.c ≤ x.k))
    have hlen := wt_len v L
    rw [hm.out] at hlen
    clear x2 o3
    generalize wtI v L = M at *
    have hls := Lib.hid (take_lens hap.out ht.out hwv.out fun x hx => (hwk.out x hx).2.1)
    obtain ⟨k, hk⟩ : ∃ k, M.length = k := ⟨_, rfl⟩
    rw [hk] at hlen hcm ⊢
    replace hk := Lib.hid hk
    replace hI := Lib.hid hI
    replace hv := Lib.hid (hv.out.ext x3.out)
    clear hu hwl
    go_wp2_with fail
    go_loopw [8] (fun s W => ∃ i : Nat, i ≤ k ∧ s = Vi i ∧ Ext w3 W) (fun s _ => k - (intOf s).toNat)
    case atStart => exact ⟨0, Nat.zero_le _, rfl, Ext.refl _⟩
    case round =>
      obtain ⟨i, hi, rfl, hx⟩ := hrel
      by_cases hlt : i < k
      · obtain ⟨b, o, x, hA, hp, d⟩ := (hI.out.ext hx).at (k := i) (by rw [hk.out]; exact hlt)
        obtain ⟨d0, d1, d2, d3, d4, d5, d6⟩ := d
        have hi1 : (0 : Int) ≤ (i : Int) := by omega
        have hi2 : (i : Int) < (k : Int) := by omega
        obtain ⟨hx1, hx2, _⟩ := hwk.out x (List.mem_of_getElem? hp)
        have hA' := Lib.hid (fun (W : World) (hW : Ext wr W) => K.ready A n ca v x W (hv.out.ext (hx.trans hW)) hn.out hca ht.out hwv.out (by omega) hx1 hx2)
        have hB' := Lib.hid (fun (W : World) (hW : Ext wr W) => rdyRef_any A n ca v x W (hv.out.ext (hx.trans hW)) hn.out (by omega))
        subst hA
        clear hp hx1 hx2
        cases hr : rdyI v x
        all_goals
          rw [hr] at hA' hB'
          clear hr
          go_wp2_with fail
          replace d0 := cell_regrown d0
          replace d1 := cell_regrown d1
          replace d2 := cell_regrown d2
          replace d3 := cell_regrown d3
          replace d4 := cell_regrown d4
          replace d5 := cell_regrown d5
          replace d6 := cell_regrown d6
          refine wp_region_quiet_below (by kernel_rfl) (by kernel_rfl) ?_
          repeat go_big_quiet_step ((first | with_reducible exact Calls.in_regrown (hA'.out _ (Ext.regrown _ _ _)) | with_reducible exact Calls.in_regrown (hB'.out _ (Ext.regrown _ _ _))))
          refine wpQuiet_nil ?_
          intro _ hw'
          obtain ⟨⟨dq, osq⟩, hw''⟩ := hw'
          subst hw''
          go_wp2
          go_roundw
          case rel => exact ⟨i + 1, by omega, by go_num, hx.trans (Ext.regrown _ _ _)⟩
          case measure => simp [intOf]; omega
      · have hv2 := Lib.hid (hv.out.ext hx)
        have hI2 := Lib.hid (hI.out.ext hx)
        have hX := Lib.hid (x3.out.trans hx)
        clear hv hI hx x3
        go_wp2_with fail
        refine (K.take A Am n ca k cm v M _ hv2.out hn.out hca ht.out hwv.out hI2.out hk.out hcm (by omega) hap.out hwk.out).mono ?_
        rintro e w4 ⟨Aa, c1, Ab, c2, Ac, c3, rfl, h1, h2, h3, hIa, hIb, hVc, x4⟩
        go_wp2_with fail
        refine (takeRef_any A Am n ca k cm v M _ (hv2.out.ext x4) hn.out ht.out (hI2.out.ext x4) hk.out (by omega) fun x hx => (hwk.out x hx).2.1).mono ?_
        rintro e w5 ⟨Ba, e1, Bb, e2, Bc, e3, rfl, g1, g2, hJa, hJb, hUc, x5⟩
        replace hIa := Lib.hid (hIa.ext x5)
        replace hIb := Lib.hid (hIb.ext x5)
        replace hVc := Lib.hid (hVc.ext x5)
        replace hJa := Lib.hid hJa
        replace hJb := Lib.hid hJb
        replace hUc := Lib.hid hUc
        replace hX := Lib.hid ((hX.out.trans x4).trans x5)
        obtain ⟨q1, q2, _⟩ := hls.out
        rw [hk.out] at q1 q2
        rw [hn.out] at q2
        clear hls x4 x5 hv2 hI2 hwk hap h1 h2 h3 g1 g2
        generalize (takeI v M).1 = T1 at *
        generalize (takeI v M).2.1 = T2 at *
        generalize (takeI v M).2.2 = T3 at *
        obtain ⟨l1, hl1⟩ : ∃ k, T1.length = k := ⟨_, rfl⟩
        obtain ⟨l2, hl2⟩ : ∃ k, T2.length = k := ⟨_, rfl⟩
        obtain ⟨l3, hl3⟩ : ∃ k, T3.length = k := ⟨_, rfl⟩
        simp only [hl1, hl2, hl3] at q1 q2 ⊢
        replace hl1 := Lib.hid hl1
        replace hl2 := Lib.hid hl2
        replace hl3 := Lib.hid hl3
        go_wp2_with fail
        refine (sameI_any Aa Ba l1 c1 e1 T1 _ hIa.out hJa.out hl1.out (by omega)).mono ?_
        rintro e w6 ⟨rfl, x6⟩
        go_wp2_with fail
        refine (sameI_any Ab Bb l2 c2 e2 T2 _ (hIb.out.ext x6) (hJb.out.ext x6) hl2.out (by omega)).mono ?_
        rintro e w7 ⟨rfl, x7⟩
        replace x7 := x6.trans x7
        clear x6
        go_wp2_with fail
        refine (same_any Ac Bc l3 c3 e3 T3 _ (hVc.out.ext x7) (hUc.out.ext x7) hl3.out (by omega)).mono ?_
        rintro e w8 ⟨rfl, x8⟩
        go_wp2
        go_ret
        exact ⟨rfl, (hX.out.trans x7).trans x8⟩

end Go.Proofs.Ytdpmhhfpjpdfiaa

namespace Go.Proofs.Ytdpmhhfpjpdfiaa
open Go.ChangeShapes Go.WideShapes Go.ChangeAt Go.RowKit Go.Sort
set_option linter.unusedVariables false
set_option linter.unusedSimpArgs false

set_option maxRecDepth 100000 in
theorem vec_opens {H : Type} {enc : TypeId × Value → H} {W : World} {base b0 : Nat} {sp : Nat → Bool} {hd : Bool} {r : Reach} {v : Value} {d : DataW H} {p : List MemPlace} (hv : Value.okWide Try.prog W r b0 22 v) (h : DataW.Trod enc Try.prog W base sp hd 22 v d p) :
    ∃ (A : Option Addr) (n cap : Nat) (l : List (Int × Int)), v = .slice A n cap ∧ l.length = n ∧ n ≤ cap ∧ n ≤ maxLen ∧ Vec W A l ∧ wfC l := by
  obtain ⟨a, len, cap, rfl⟩ := okWide_slice Try.underlying22 hv
  obtain ⟨fuel, hf⟩ := h
  have hf' : DataW.trod enc Try.prog W base sp hd fuel 22 [.slice a len cap] = some (d, p) := hf
  rcases Go.Deep.open_slice_pairs Try.underlying22 Try.underlying42 (by kernel_rfl) rfl rfl (by kernel_rfl) (by kernel_rfl) hf' with ⟨e, _⟩ | ⟨a', len', cap', m, n, V0, V1, D0, D1, P0, P1, e, _, hl, hm, hmm, _, hi⟩
  · injection e with e
    injection e with e1 e2 e3
    subst e1
    subst e2
    subst e3
    exact ⟨_, _, _, [], rfl, rfl, Nat.le_refl _, by omega, Vec.nil _ _, by intro p hp; cases hp⟩
  · injection e with e
    injection e with e1 e2 e3
    subst e1
    subst e2
    subst e3
    have hml : len ≤ m := by rw [hmm]; split <;> omega
    have hcell : ∀ i, i < len → ∃ x y : Int, V0 i = Vu x ∧ V1 i = Vu y ∧ (0 ≤ x ∧ x ≤ 4294967295) ∧ (0 ≤ y ∧ y ≤ 4294967295) ∧ W.cell? (a'.add (i * 2)) = some (Vu x) ∧ W.cell? (a'.add (i * 2 + 1)) = some (Vu y) := by
      intro i hil
      obtain ⟨h0, h1, t0, t1⟩ := hi i (by omega)
      obtain ⟨x, e0, e1, wx⟩ := DataW.trod_int Try.underlying28 t0
      obtain ⟨y, e2, e3, wy⟩ := DataW.trod_int Try.underlying28 t1
      simp at e0 e2
      rw [e0] at h0
      rw [e2] at h1
      exact ⟨x, y, e0, e2, bounds_u32 wx, bounds_u32 wy, h0, h1⟩
    refine ⟨some a', len, cap, (List.range len).map fun i => (intOf (V0 i), intOf (V1 i)), rfl, by simp, hl, by omega, ?_, ?_⟩
    · intro h0
      have hlen : 0 < len := by
        rw [flat_len encC_len] at h0
        simp at h0
        omega
      obtain ⟨x, y, _, _, _, _, g0, _⟩ := hcell 0 hlen
      obtain ⟨b, o, spot⟩ := a'
      have hspot : spot = none := by simpa [Addr.add] using World.cell?_spot g0
      subst hspot
      refine ⟨b, o, rfl, fun j u hu => ?_⟩
      have hj : j < len * 2 := by
        rcases Nat.lt_or_ge j (len * 2) with k | k
        · exact k
        · rw [List.getElem?_eq_none (by rw [flat_len encC_len]; simpa using k)] at hu; cases hu
      obtain ⟨x, y, e0, e1, _, _, g0, g1⟩ := hcell (j / 2) (by omega)
      have hget : ((List.range len).map fun i => (intOf (V0 i), intOf (V1 i)))[j / 2]? = some (x, y) := by
        rw [List.getElem?_map, List.getElem?_range (by omega)]
        simp [e0, e1, intOf]
      rw [add_at] at g0 g1
      rcases Nat.mod_two_eq_zero_or_one j with k | k
      · have ej : j = j / 2 * 2 + 0 := by omega
        rw [ej, flat_at encC_len hget (by omega)] at hu
        have : u = Vu x := by simpa [encC] using hu.symm
        rw [this, ej]; exact g0
      · have ej : j = j / 2 * 2 + 1 := by omega
        rw [ej, flat_at encC_len hget (by omega)] at hu
        have : u = Vu y := by simpa [encC] using hu.symm
        rw [this, ej]; exact g1
    · intro p hp
      obtain ⟨i, hil, rfl⟩ := List.mem_map.1 hp
      obtain ⟨x, y, e0, e1, wx, wy, _⟩ := hcell i (List.mem_range.1 hil)
      rw [e0, e1]
      exact ⟨wx.1, wx.2, wy.1, wy.2⟩

end Go.Proofs.Ytdpmhhfpjpdfiaa

namespace Go.Proofs.Ytdpmhhfpjpdfiaa
open Go.ChangeShapes Go.WideShapes Go.ChangeAt Go.RowKit Go.Sort
set_option linter.unusedVariables false
set_option linter.unusedSimpArgs false

set_option maxRecDepth 100000 in
theorem structs_open {α : Type} [Inhabited α] {en : α → List Value} {s : Nat} (hs : ∀ x, (en x).length = s) (h0 : 0 < s) {T E : TypeId} (hT : Try.prog.underlying T = some (.slice E)) (ce : Try.prog.cellsOf E = s) {good : α → Prop}
    {H : Type} {enc : TypeId × Value → H} {W : World} {base b0 : Nat} {sp : Nat → Bool} {hd : Bool} {r : Reach} {v : Value} {d : DataW H} {p : List MemPlace} 
    (hel : ∀ (fuel : Nat) (cs : List Value) (x : DataW H × List MemPlace), cs.length = s → DataW.trod enc Try.prog W base sp hd fuel E cs = some x → ∃ q, good q ∧ en q = cs)
    (hv : Value.okWide Try.prog W r b0 T v) (h : DataW.Trod enc Try.prog W base sp hd T v d p) :
    ∃ (A : Option Addr) (n cap : Nat) (l : List α), v = .slice A n cap ∧ l.length = n ∧ n ≤ cap ∧ n ≤ maxLen ∧ Row W A (flat en l) ∧ ∀ x ∈ l, good x := by
  obtain ⟨a, len, cap, rfl⟩ := okWide_slice hT hv
  obtain ⟨fuel, hf⟩ := h
  have hf' : DataW.trod enc Try.prog W base sp hd fuel T [.slice a len cap] = some (d, p) := hf
  rcases Go.Deep.open_slice hT hf' with ⟨e, _⟩ | ⟨a', len', cap', m, n, D, Pl, e, _, hl, hm, hmm, _, hi⟩
  · injection e with e
    injection e with e1 e2 e3
    subst e1
    subst e2
    subst e3
    exact ⟨_, _, _, [], rfl, rfl, Nat.le_refl _, by omega, Row.nil _ _, by simp⟩
  · injection e with e
    injection e with e1 e2 e3
    subst e1
    subst e2
    subst e3
    have hml : len ≤ m := by rw [hmm]; split <;> omega
    have hcell : ∀ i, i < len → ∃ q : α, good q ∧ ∀ j u, (en q)[j]? = some u → W.cell? (a'.add (i * s + j)) = some u := by
      intro i hil
      obtain ⟨cs', h1, h2⟩ := hi i (by omega)
      rw [ce] at h1
      obtain ⟨_, hlen, hc⟩ := World.cells?_some h1
      obtain ⟨q, hq, hqc⟩ := hel _ _ _ hlen h2
      refine ⟨q, hq, fun j u hu => ?_⟩
      have hj : j < s := by
        rcases Nat.lt_or_ge j s with g | g
        · exact g
        · rw [List.getElem?_eq_none (by rw [hs]; exact g)] at hu; cases hu
      have e0 := hc j hj
      rw [Go.Deep.add_add] at e0
      rw [e0, ← hqc]
      exact hu
    obtain ⟨q, hq⟩ := Go.Deep.choose_lt hcell
    refine ⟨some a', len, cap, (List.range len).map q, rfl, by simp, hl, by omega, ?_, ?_⟩
    · intro hp
      have hlen : 0 < len := by
        rw [flat_len hs] at hp
        simp at hp
        rcases Nat.eq_zero_or_pos len with z | z
        · rw [z] at hp; simp at hp
        · exact z
      obtain ⟨u0, hu0⟩ : ∃ u, (en (q 0))[0]? = some u := ⟨_, List.getElem?_eq_getElem (by rw [hs]; exact h0)⟩
      have g0 := (hq 0 hlen).2 0 u0 hu0
      obtain ⟨b, o, spot⟩ := a'
      have hspot : spot = none := by simpa [Addr.add] using World.cell?_spot g0
      subst hspot
      refine ⟨b, o, rfl, fun j u hu => ?_⟩
      have hj : j < len * s := by
        rcases Nat.lt_or_ge j (len * s) with k | k
        · exact k
        · rw [List.getElem?_eq_none (by rw [flat_len hs]; simpa using k)] at hu; cases hu
      have hdiv : j / s < len := Nat.div_lt_of_lt_mul (by rw [Nat.mul_comm]; exact hj)
      have hget : ((List.range len).map q)[j / s]? = some (q (j / s)) := by
        rw [List.getElem?_map, List.getElem?_range hdiv]; rfl
      have ej : j = j / s * s + j % s := by rw [Nat.mul_comm]; exact (Nat.div_add_mod j s).symm
      rw [ej, flat_at hs hget (Nat.mod_lt _ h0)] at hu
      have := (hq (j / s) hdiv).2 (j % s) u hu
      rw [add_at] at this
      rw [ej]; exact this
    · intro x hx
      obtain ⟨i, hi', rfl⟩ := List.mem_map.1 hx
      exact (hq i (List.mem_range.1 hi')).1

set_option maxRecDepth 100000 in
theorem id_cells {H : Type} {enc : TypeId × Value → H} {W : World} {base : Nat} {sp : Nat → Bool} {hd : Bool} {fuel : Nat} {v0 v1 : Value} {x : DataW H × List MemPlace} (h : DataW.trod enc Try.prog W base sp hd fuel 30 [v0, v1] = some x) :
    ∃ a b : Int, v0 = Vu a ∧ v1 = Vu b ∧ 0 ≤ a ∧ a ≤ 4294967295 ∧ 0 ≤ b ∧ b ≤ 4294967295 := by
  obtain ⟨xs, k, hk, hxy, _, hxl, hfd⟩ := DataW.trod_struct Try.underlying30 h
  match xs, hxl with
  | [y0, y1], _ =>
    have g0 := hfd 0 _ rfl
    have g1 := hfd 1 _ rfl
    have cu : Try.prog.cellsOf 28 = 1 := by kernel_rfl
    simp [cu] at g0 g1
    obtain ⟨a, t0, _, wa⟩ := DataW.trod_int Try.underlying28 g0
    obtain ⟨b, t1, _, wb⟩ := DataW.trod_int Try.underlying28 g1
    simp at t0 t1
    have ba := bounds_u32 wa
    have bb := bounds_u32 wb
    exact ⟨a, b, t0, t1, ba.1, ba.2, bb.1, bb.2⟩

end Go.Proofs.Ytdpmhhfpjpdfiaa

namespace Go.Proofs.Ytdpmhhfpjpdfiaa
open Go.ChangeShapes Go.WideShapes Go.ChangeAt Go.RowKit Go.Sort
set_option linter.unusedVariables false
set_option linter.unusedSimpArgs false

instance inhItem : Inhabited It := ⟨⟨0, 0, 0, 0, 0, 0, 0⟩⟩
instance : Inhabited Rn := ⟨⟨0, 0, 0, 0, 0, 0, []⟩⟩
theorem bounds_i32 {a : Int} (h : (Lit.int .i32 a).wf = true) : -2147483648 ≤ a ∧ a ≤ 2147483647 := by
  simpa [Lit.wf, IntKind.min, IntKind.max, IntKind.signed, IntKind.bits] using h
theorem list7 {α : Type} {l : List α} (h : l.length = 7) : ∃ a b c d e f g, l = [a, b, c, d, e, f, g] := by
  match l, h with
  | [a, b, c, d, e, f, g], _ => exact ⟨a, b, c, d, e, f, g, rfl⟩
theorem list4 {α : Type} {l : List α} (h : l.length = 4) : ∃ a b c d, l = [a, b, c, d] := by
  match l, h with
  | [a, b, c, d], _ => exact ⟨a, b, c, d, rfl⟩

set_option maxRecDepth 100000 in
theorem item_cells {H : Type} {enc : TypeId × Value → H} {W : World} {base : Nat} {sp : Nat → Bool} {hd : Bool} (fuel : Nat) (cs : List Value) (x : DataW H × List MemPlace) (hl : cs.length = 7) (h : DataW.trod enc Try.prog W base sp hd fuel 32 cs = some x) :
    ∃ q, wfI q ∧ encI q = cs := by
  obtain ⟨v0, v1, v2, v3, v4, v5, v6, rfl⟩ := list7 hl
  obtain ⟨xs, k, hk, hxy, _, hxl, hfd⟩ := DataW.trod_struct Try.underlying32 h
  obtain ⟨y0, y1, y2, y3, rfl⟩ := list4 hxl
  have g0 := hfd 0 _ rfl
  have g1 := hfd 1 _ rfl
  have g2 := hfd 2 _ rfl
  have g3 := hfd 3 _ rfl
  have cu : Try.prog.cellsOf 21 = 1 := by kernel_rfl
  have ci : Try.prog.cellsOf 30 = 2 := by kernel_rfl
  simp [cu, ci] at g0 g1 g2 g3
  obtain ⟨a, b, rfl, rfl, a1, a2, b1, b2⟩ := id_cells g0
  obtain ⟨c, d, rfl, rfl, c1, c2, d1, d2⟩ := id_cells g1
  obtain ⟨e, f, rfl, rfl, e1, e2, f1, f2⟩ := id_cells g2
  obtain ⟨z, t0, _, wz⟩ := DataW.trod_int Try.underlying21 g3
  simp at t0
  subst t0
  have bz := bounds_i32 wz
  exact ⟨⟨a, b, c, d, e, f, z⟩, ⟨a1, a2, b1, b2, c1, c2, d1, d2, e1, e2, f1, f2, bz.1, bz.2⟩, rfl⟩
set_option maxRecDepth 100000 in
theorem items_open {H : Type} {enc : TypeId × Value → H} {W : World} {base b0 : Nat} {sp : Nat → Bool} {hd : Bool} {r : Reach} {v : Value} {d : DataW H} {p : List MemPlace} (hv : Value.okWide Try.prog W r b0 23 v) (h : DataW.Trod enc Try.prog W base sp hd 23 v d p) :
    ∃ (A : Option Addr) (n cap : Nat) (l : List It), v = .slice A n cap ∧ l.length = n ∧ n ≤ cap ∧ n ≤ maxLen ∧ ItS W A l ∧ wfIs l :=
  structs_open encI_len (by omega) Try.underlying23 (by kernel_rfl) item_cells hv h
end Go.Proofs.Ytdpmhhfpjpdfiaa

namespace Go.Proofs.Ytdpmhhfpjpdfiaa
open Go.ChangeShapes Go.WideShapes Go.ChangeAt Go.RowKit Go.Sort
set_option linter.unusedVariables false
set_option linter.unusedSimpArgs false

set_option maxRecDepth 100000 in
theorem pendTells_lifted (K : PdK) (os : Os) (started : os.Started) (H : Type) (enc : TypeId × Value → H) :
    ReturnsInHanded {} Try.checked os 3 .any (Rows.pendTellsSpec.pre6 enc Try.prog Try.f3 Rows.pendTellsRow.domain false) (Rows.pendTellsSpec.post enc Try.prog Try.f3 false true false false) := by
  refine returnsInHanded_of_change (C := Try.checked) own started (by kernel_rfl) Try.func3
    (ChangeSpec.witness6 (enc := enc) (C := Try.checked) false ⟨#[], #[.slice none 0 0, .slice none 0 0], []⟩ 8 (by kernel_rfl) (by kernel_rfl) (by kernel_rfl) (by kernel_rfl)) ?_
  intro W base args ds gs before hval0 hW _ _
  have hval : ∀ (j : Nat) t v, Try.f3.params[j]? = some t → args[j]? = some v → Value.okWide Try.prog W .any base t v := hval0
  have hW' := hW
  obtain ⟨p, q, hA0, hV, rfl, _, _⟩ := hW
  have hA : DataW.TrodAll enc Try.prog W 0 (fun _ => true) true Try.f3.params.toList args.toList ds p := hA0
  rw [Try.params3] at hA hval
  obtain ⟨v0, v1, d0, d1, p0, p1, rfl, rfl, rfl, h0, h1⟩ := trodAll_two hA
  obtain ⟨rfl, rfl⟩ := trodVars_none hV
  obtain ⟨A, n, ca, v, rfl, hn, hca, hn1, hv, hwv⟩ := vec_opens (hval 0 22 v0 rfl rfl) h0
  obtain ⟨B, m, cb, l, rfl, hm, hcb, hm1, hu, hwl⟩ := items_open (hval 1 23 v1 rfl rfl) h1
  clear hA0 hval0
  refine (pendTells_walk K A B n ca m cb v l W hv hu hn hm hca hcb hwv hwl hn1).mono fun e W' ⟨he, hg⟩ => ?_
  subst he
  exact ⟨_, rfl, law_post hW' laid (by decide +kernel) rfl rfl rfl rfl hg (by kernel_rfl) Try.underlying4⟩

theorem pendTells_of (K : PdK) : Rows.PendTellsSaid :=
  OpenClaim.holds_of_wide 3 Try.f3 rfl rfl rfl rfl rfl rfl rfl ⟨rfl, rfl, rfl, rfl, rfl⟩ rfl rfl rfl rfl rfl (by kernel_rfl) Try.func3 (by kernel_rfl)
    (of_decide_eq_true (by kernel_rfl)) (by unfold Func.isWrapper; first | (rw [if_pos (by decide +kernel)]; kernel_rfl) | (rw [if_neg (by decide +kernel)]; exact ⟨rfl, rfl⟩))
    (fun os started H enc _ => pendTells_lifted K os started H enc)

end Go.Proofs.Ytdpmhhfpjpdfiaa
