/-
  The walk of IndexPlays, by what is asked of an index's calls; no claim stands here.
-/
import Derived.Test.YtanknhalgoheeaaXUp
import Derived.Test.YtanknhalgoheeaaYIw
import Derived.Deep.DeepCutAuto
import Derived.Test.YtanknhalgoheeaaXHid
import Derived.Test.YtanknhalgoheeaaXPl1
import Derived.Test.YtanknhalgoheeaaXOpn
import Derived.Test.YtanknhalgoheeaaGx
import Derived.Test.YtanknhalgoheeaaBSm
import Derived.Test.YtanknhalgoheeaaGx2
import Derived.Test.YtanknhalgoheeaaSoft2
namespace Go.Proofs.Ytanknhalgoheeaa
open Go.ChangeShapes Go.WideShapes Go.ChangeAt Go.RowKit Go.Sort
set_option linter.unusedVariables false
attribute [local go_sem] World.cell?_alloc_some

/-- what the slots hold -/
def xplTab (w8 : World) (b8 pd n6 c6 p : Nat) (A6 : Option Addr) (lt : List En) (e : En) : SoftTab := [(96, fun z9 W => ∃ q, z9 = .slice (some ⟨q, 0, none⟩) 0 0 ∧ b8 ≤ q ∧ W.heap[q]? = some (.cells #[] 38 (0, 0))),
  (97, fun z9 W => z9 = .slice A6 n6 c6),
  (98, fun z9 W => z9 = Vi (p : Int)),
  (99, fun z9 W => z9 = .slice A6 p c6),
  (100, fun z9 W => OwnE w8 W z9 lt),
  (101, fun z9 W => z9 = .pointer (some ⟨pd, 2, none⟩)),
  (102, fun z9 W => z9 = env e),
  (103, fun z9 W => ∃ q, z9 = .slice (some ⟨q, 0, none⟩) 1 1 ∧ BoxE W q e)]
theorem xplTab_mono (w8 : World) (b8 pd n6 c6 p : Nat) (A6 : Option Addr) (lt : List En) (e : En) : SoftMonoR Ext (xplTab w8 b8 pd n6 c6 p A6 lt e) := by
  intro x hp v' W W' h hx
  simp only [xplTab, List.mem_cons, List.not_mem_nil, or_false] at hp
  rcases hp with rfl | rfl | rfl | rfl | rfl | rfl | rfl | rfl
  all_goals first
    | exact h
    | exact OwnE.ext h hx
    | (obtain ⟨q, h1, h2, h3⟩ := h
       exact ⟨q, h1, h2, by rw [RowKit.Below.block hx q (Array.getElem?_eq_some_iff.1 h3).1]; exact h3⟩)
    | (obtain ⟨q, h1, h2⟩ := h
       exact ⟨q, h1, by unfold BoxE at h2 ⊢; rw [RowKit.Below.block hx q (Array.getElem?_eq_some_iff.1 h2).1]; exact h2⟩)
theorem RX.st8 (W : World) (p : Nat) (v0 v1 v2 v3 v4 v5 v6 v7 : Value) : RX p W ((((((((W.setCell ⟨p, 0, none⟩ (v0)).setCell ⟨p, 1, none⟩ (v1)).setCell ⟨p, 2, none⟩ (v2)).setCell ⟨p, 3, none⟩ (v3)).setCell ⟨p, 4, none⟩ (v4)).setCell ⟨p, 5, none⟩ (v5)).setCell ⟨p, 6, none⟩ (v6)).setCell ⟨p, 7, none⟩ (v7)) :=
  RX.set (RX.set (RX.set (RX.set (RX.set (RX.set (RX.set (RX.set (RX.refl p W) 0 v0 (.inr rfl)) 1 v1 (.inr rfl)) 2 v2 (.inr rfl)) 3 v3 (.inr rfl)) 4 v4 (.inr rfl)) 5 v5 (.inr rfl)) 6 v6 (.inr rfl)) 7 v7 (.inr rfl)
theorem GX.st8 {B p q : Nat} {w W : World} (h : GX B p q w W) (v0 v1 v2 v3 v4 v5 v6 v7 : Value) : GX B p q w ((((((((W.setCell ⟨q, 0, none⟩ (v0)).setCell ⟨q, 1, none⟩ (v1)).setCell ⟨q, 2, none⟩ (v2)).setCell ⟨q, 3, none⟩ (v3)).setCell ⟨q, 4, none⟩ (v4)).setCell ⟨q, 5, none⟩ (v5)).setCell ⟨q, 6, none⟩ (v6)).setCell ⟨q, 7, none⟩ (v7)) :=
  ((((((((h.set v0).set v1).set v2).set v3).set v4).set v5).set v6).set v7)
/-- what holds where the ways of a deed meet -/
def CutRel (Ix : (Nat → Prop) → World → Value → List En → Prop) (w0 w4 : World) (B px pd py : Nat) (F : Nat → Prop) (xv : Xv) (A6 : Option Addr) (c6 : Nat) (l : List En) (c k : Int) (v11 v12 v14 : Value) (Z : World) : Prop :=
  Hid (Ix F Z (ixv xv) l) ∧ Hid (OwnE w0 Z (.slice A6 l.length c6) l) ∧ Z.heap[px]? = some (.cells #[.slice xv.A xv.n xv.c, .pointer xv.l, .pointer xv.r, Vi xv.h, Vi xv.m, Vi xv.s, Vq xv.lo, Vq xv.hi] 31 (0, 0)) ∧ GX B px px w4 Z ∧ Z.cell? ⟨pd, 2, none⟩ = some (Vu c) ∧ Z.cell? ⟨pd, 3, none⟩ = some (Vu k) ∧
  ((∃ e : Int, 1 ≤ e ∧ e ≤ 3 ∧ v12 = Vi e ∧ v14 = errv e) ∨
   (v12 = Vi 0 ∧ v14 = .nilIface ∧ ∃ (F' : Nat → Prop) (yv : Xv) (l' : List En) (A' : Option Addr) (c' : Nat), v11 = .slice A' l'.length c' ∧ l'.length ≤ c' ∧ l'.length ≤ l.length + 1 ∧ apart l' = true ∧ (∀ x ∈ l', wfE x) ∧
     Hid (OwnE w0 Z (.slice A' l'.length c') l') ∧ ((Value.slice A' l'.length c').ownBlock = none ∨ (Value.slice A' l'.length c').ownBlock ≠ some px) ∧ Hid (Ix F' Z (ixv yv) l') ∧ ¬ F' px ∧ Z.heap[py]? = some (.cells #[.slice yv.A yv.n yv.c, .pointer yv.l, .pointer yv.r, Vi yv.h, Vi yv.m, Vi yv.s, Vq yv.lo, Vq yv.hi] 31 (0, 0))))
/-- a deed that is refused -/
theorem cut_bad {Ix : (Nat → Prop) → World → Value → List En → Prop} (M : IxW Ix) {w0 w4 W6 W7 W8 : World} {B px pd py : Nat} {F : Nat → Prop} {xv : Xv} {A6 : Option Addr} {c6 : Nat} {l : List En} {c k : Int} (v11 : Value) (e : Int) (h1 : 1 ≤ e) (h2 : e ≤ 3)
    (hI : Hid (Ix F W6 (ixv xv) l)) (ho : Hid (OwnE w0 W6 (.slice A6 l.length c6) l)) (hx : W6.heap[px]? = some (.cells #[.slice xv.A xv.n xv.c, .pointer xv.l, .pointer xv.r, Vi xv.h, Vi xv.m, Vi xv.s, Vq xv.lo, Vq xv.hi] 31 (0, 0))) (hG : GX B px px w4 W6) (u2 : W6.cell? ⟨pd, 2, none⟩ = some (Vu c)) (u3 : W6.cell? ⟨pd, 3, none⟩ = some (Vu k))
    (x7 : Ext W6 W7) (r8 : RX py W7 W8) (hIlt : ∀ b, F b → b < pd) (hlt : ∀ b, (Value.slice A6 l.length c6).ownBlock = some b → b < pd) (hp : pd < py) (hpx : px < pd) (hB : B ≤ pd) :
    CutRel Ix w0 w4 B px pd py F xv A6 c6 l c k v11 (Vi e) (errv e) W8 := by
  have hb : ∀ b, b < pd → W8.heap[b]? = W7.heap[b]? ∨ W7.heap.size ≤ b := fun b hb => by
    rcases Nat.lt_or_ge b W7.heap.size with h | h
    · exact .inl (r8.block b h (fun e => by injection e with e; omega))
    · exact .inr h
  refine ⟨Lib.hid (M.frame (M.ext hI.out x7) fun b hF => ?_), Lib.hid ((ho.out.ext x7).kept r8 (.inr fun e => by have := hlt _ e; omega)), r8.blk (by rw [RowKit.Below.block x7 px (Array.getElem?_eq_some_iff.1 hx).1]; exact hx) (by omega), (hG.ext x7).on r8 (fun b e => by injection e with e; left; omega), r8.cell (x7.keep u2) (by omega), r8.cell (x7.keep u3) (by omega), .inl ⟨e, h1, h2, rfl, rfl⟩⟩
  rcases hb b (hIlt b hF) with h | h
  · exact h
  · have := M.lt (M.ext hI.out x7) hF
    omega

/-- an entry is put in -/
theorem cut_put {Ix : (Nat → Prop) → World → Value → List En → Prop} (M : IxW Ix) {w0 w4 W8 W11 : World} {B px pd py : Nat} {F F' : Nat → Prop} {xv yv : Xv} {A6 : Option Addr} {c6 : Nat} {l l' : List En} {c k : Int} {v11 : Value}
    (hI : Ix F W8 (ixv xv) l) (hJ : Ix F' W8 (ixv yv) l') (hG : GX B px px w4 W8) (ol : OwnE w0 W8 (.slice A6 l.length c6) l) (hpx : W11.heap[px]? = some (.cells #[.slice xv.A xv.n xv.c, .pointer xv.l, .pointer xv.r, Vi xv.h, Vi xv.m, Vi xv.s, Vq xv.lo, Vq xv.hi] 31 (0, 0))) (hpy : W11.heap[py]? = some (.cells #[.slice yv.A yv.n yv.c, .pointer yv.l, .pointer yv.r, Vi yv.h, Vi yv.m, Vi yv.s, Vq yv.lo, Vq yv.hi] 31 (0, 0))) (x11 : Ext W8 W11)
    (u2 : W11.cell? ⟨pd, 2, none⟩ = some (Vu c)) (u3 : W11.cell? ⟨pd, 3, none⟩ = some (Vu k)) (o8 : OwnE W8 W11 v11 l') (o11 : OwnE w0 W11 v11 l') (hlpx : px < W8.heap.size) (hlen : l'.length = l.length + 1) (hla : apart l' = true) (hlw : ∀ x ∈ l', wfE x) (hF : ¬ F' px) :
    CutRel Ix w0 w4 B px pd py F xv A6 c6 l c k v11 (Vi 0) .nilIface W11 := by
  obtain ⟨A', c', rfl, hc', hE'⟩ := OwnE.open o11
  exact ⟨Lib.hid (M.ext hI x11), Lib.hid (ol.ext x11), hpx, hG.ext x11, u2, u3, .inr ⟨rfl, rfl, F', yv, l', A', c', rfl, hc', by omega, hla, hlw, Lib.hid o11, .inr (fun e => by have := (OwnE.lt o8 _ e).1; omega), Lib.hid (M.ext hJ x11), hF, hpy⟩⟩

/-- what the loop keeps -/
def PlRel (Ix : (Nat → Prop) → World → Value → List En → Prop) (w0 w4 : World) (B px m : Nat) (v6 v8 : Value) (W : World) : Prop :=
  ∃ (i : Nat) (l : List En) (A : Option Addr) (c : Nat) (F : Nat → Prop) (xv : Xv), v8 = Vi i ∧ i ≤ m ∧ v6 = .slice A l.length c ∧ l.length ≤ c ∧ l.length ≤ 100 + i ∧ apart l = true ∧ (∀ x ∈ l, wfE x) ∧
    Hid (OwnE w0 W (.slice A l.length c) l) ∧ ((Value.slice A l.length c).ownBlock = none ∨ (Value.slice A l.length c).ownBlock ≠ some px) ∧ Hid (Ix F W (ixv xv) l) ∧ ¬ F px ∧ W.heap[px]? = some (.cells #[.slice xv.A xv.n xv.c, .pointer xv.l, .pointer xv.r, Vi xv.h, Vi xv.m, Vi xv.s, Vq xv.lo, Vq xv.hi] 31 (0, 0)) ∧ GX B px px w4 W

set_option maxRecDepth 100000 in
set_option maxHeartbeats 64000000 in
theorem plays_small {Ix : (Nat → Prop) → World → Value → List En → Prop} (M : IxW Ix) (w : World) (A : Option Addr) (n c : Nat) (l : List En) (hv : EnS w A l) (hn : l.length = n) (hn100 : n ≤ 100) (hwl : ∀ x ∈ l, wfE x)
    (D : Option Addr) (m cd : Nat) (ds : List Dd) (hd : DdS w D ds) (hm : ds.length = m) (hm40 : m ≤ 40) (hwd : ∀ x ∈ ds, wfD x) :
    Calls Try.prog 3 #[.slice A n c, .slice D m cd] w fun e w' => e = .returned (.bool true) ∧ Ext w w' := by
  have hup := Lib.hid (up7_any M w)
  have hap := Lib.hid (fun W (hx : Ext w W) => apart_any A n c l W (hv.ext hx) hn (by omega))
  have g1 : decide ((100 : Int) < (n : Int)) = false := by rw [decide_eq_false_iff_not]; omega
  have g2 : decide ((40 : Int) < (m : Int)) = false := by rw [decide_eq_false_iff_not]; omega
  have hLn : (apOf l).length ≤ n := by rw [← hn]; exact ap_le l
  have hLa := apart_ap l
  have hLw := ap_wf hwl
  generalize apOf l = L at *
  replace hd := Lib.hid hd
  replace hm := Lib.hid hm
  clear hv hwl hn
  go_enter Try.func3, Try.ntmps3
  go_wp2_with fail
  refine hup.out.mono ?_
  rintro e w0 ⟨rfl, x0⟩
  go_wp2_with fail
  refine (hap.out _ x0).mono ?_
  rintro e w1 ⟨v6, rfl, o6, x1⟩
  have y1 := x0.trans x1
  obtain ⟨A6, c6, rfl, hc6, hE6⟩ := OwnE.open o6
  have hof := Lib.hid (M.of w1 A6 L.length c6 L hE6 rfl hc6 (by omega) hLa hLw)
  clear hup hap
  go_wp2_with fail
  refine hof.out.mono ?_
  rintro e w2 ⟨F, v, rfl, hI, hF, x2⟩
  obtain ⟨xv, rfl⟩ := M.shape hI
  obtain ⟨w3, hw3⟩ : ∃ W3, w2.alloc (.cells #[.slice xv.A xv.n xv.c, .pointer xv.l, .pointer xv.r, Vi xv.h, Vi xv.m, Vi xv.s, Vq xv.lo, Vq xv.hi] 31) = W3 := ⟨_, rfl⟩
  have x3 : Ext w2 w3 := by rw [← hw3]; exact (Ext.refl _).alloc _
  have hpx : w3.heap[w2.heap.size]? = some (.cells #[.slice xv.A xv.n xv.c, .pointer xv.l, .pointer xv.r, Vi xv.h, Vi xv.m, Vi xv.s, Vq xv.lo, Vq xv.hi] 31 (0, 0)) := by rw [← hw3]; exact heap_alloc_new _ _
  have hFp : ¬ F w2.heap.size := fun h => by have := M.lt hI h; omega
  have o63 := (o6.ext (x2.trans x3))
  have hne6 : (Value.slice A6 L.length c6).ownBlock = none ∨ (Value.slice A6 L.length c6).ownBlock ≠ some w2.heap.size := .inr fun e => by have := (OwnE.lt o6 _ e).2; have := x2.size; omega
  have hI3 := M.ext hI x3
  have hsz3 : w3.heap.size = w2.heap.size + 1 := by rw [← hw3]; simp
  have his := Lib.hid (is_any (M.r F) xv A6 L.length c6 L 0 0 w3 hI3 (hE6.ext (x2.trans x3)) rfl (by omega))
  have y3 := (y1.trans x2).trans x3
  have hwp : w.heap.size ≤ w2.heap.size := (y1.trans x2).size
  have hwp0 : w0.heap.size ≤ w2.heap.size := (x1.trans x2).size
  have y30 := (x1.trans x2).trans x3
  obtain ⟨a0, a1, a2, a3, a4, a5, a6, a7⟩ := Bx.row hpx
  clear o6 hE6 hof x1 x2 x3 hI
  go_wp2_with fail
  refine his.out.mono ?_
  rintro e w4 ⟨rfl, x4⟩
  clear a0 a1 a2 a3 a4 a5 a6 a7
  generalize w2.heap.size = px at *
  have y4 := y3.trans x4
  have y40 := y30.trans x4
  have hpx4 : w4.heap[px]? = some (.cells #[.slice xv.A xv.n xv.c, .pointer xv.l, .pointer xv.r, Vi xv.h, Vi xv.m, Vi xv.s, Vq xv.lo, Vq xv.hi] 31 (0, 0)) := by rw [RowKit.Below.block x4 px (by omega)]; exact hpx
  have o64 := Lib.hid (o63.ext x4)
  have hI4 := Lib.hid (M.ext hI3 x4)
  obtain ⟨B, hBd⟩ : ∃ B, w4.heap.size = B := ⟨_, rfl⟩
  have hpB : px < B := by have := x4.size; omega
  have hendx : ∀ (Z : World) (hG : GX B px px w4 Z), Ext w Z := fun Z hG => hG.down y4 (by omega) hwp hwp
  replace hendx := Lib.hid hendx
  have hend0 : ∀ (Z : World) (hG : GX B px px w4 Z), Ext w0 Z := fun Z hG => hG.down y40 (by omega) hwp0 hwp0
  replace hend0 := Lib.hid hend0
  clear his hpx x4 o63 hI3 hw3
  go_wp2
  go_loopw [6, 8] (PlRel Ix w0 w4 B px m) (fun _ i _ => m - (intOf i).toNat)
  case atStart => exact ⟨0, L, A6, c6, F, xv, by go_num, Nat.zero_le _, rfl, hc6, by omega, hLa, hLw, o64, hne6, hI4, hFp, hpx4, GX.refl B px px w4 (by omega)⟩
  case round =>
    clear o64 hI4 hFp hpx4 hne6 hLa hLw hLn hc6 hsz3
    obtain ⟨i, l, A6, c6, F, xv, rfl, hi, rfl, hc6, hll, hla, hlw, ho, hne6, hI, hFp, hxb, hG⟩ := hrel
    have hE := hendx.out _ hG
    by_cases hlt : i < m
    · obtain ⟨bd, od, dd, rfl, hp, d0, d1, d2, d3, d4, d5⟩ := (hd.out.ext hE).at (k := i) (by rw [hm.out]; exact hlt)
      have hwd1 := hwd dd (List.mem_of_getElem? hp)
      obtain ⟨hwh, hwa, hwe⟩ := hwd1
      have hi1 : (0 : Int) ≤ (i : Int) := by omega
      have hi2 : (i : Int) < (m : Int) := by omega
      obtain ⟨W1, hW1⟩ : ∃ W1, wr.alloc (.cells #[.int .i64 dd.what, .int .i64 dd.at', .int .u32 dd.e.c, .int .u32 dd.e.k, .int .i32 dd.e.ch, .bool dd.e.g] 40) = W1 := ⟨_, rfl⟩
      have xW1 : Ext wr W1 := by rw [← hW1]; exact (Ext.refl _).alloc _
      have e0 : W1.cell? ⟨wr.heap.size, 0, none⟩ = some (Vi dd.what) := by rw [← hW1]; simp [go_sem]
      have e1 : W1.cell? ⟨wr.heap.size, 1, none⟩ = some (Vi dd.at') := by rw [← hW1]; simp [go_sem]
      have e2 : W1.cell? ⟨wr.heap.size, 2, none⟩ = some (Vu dd.e.c) := by rw [← hW1]; simp [go_sem]
      have e3 : W1.cell? ⟨wr.heap.size, 3, none⟩ = some (Vu dd.e.k) := by rw [← hW1]; simp [go_sem]
      have e4 : W1.cell? ⟨wr.heap.size, 4, none⟩ = some (.int .i32 dd.e.ch) := by rw [← hW1]; simp [go_sem]
      have e5 : W1.cell? ⟨wr.heap.size, 5, none⟩ = some (.bool dd.e.g) := by rw [← hW1]; simp [go_sem]
      obtain ⟨A0, c0, hv6, _, hEl⟩ := OwnE.open ho.out
      injection hv6 with hv6a _ hv6c
      subst hv6a
      subst hv6c
      have hfd := findL_any A6 l.length c6 l dd.e.c dd.e.k W1 (hEl.ext xW1) rfl (by omega)
      obtain ⟨kr, hkr⟩ : ∃ kr : Int, findV l dd.e.c dd.e.k = kr := ⟨_, rfl⟩
      rw [hkr] at hfd
      replace hfd := Lib.hid hfd
      replace hkr := Lib.hid hkr
      replace hEl := Lib.hid hEl
      clear hp
      go_wp2_with fail
      refine hfd.out.mono ?_
      rintro e W2 ⟨rfl, x2⟩
      have xW2 := xW1.trans x2
      replace e0 := x2.keep e0
      replace e1 := x2.keep e1
      replace e2 := x2.keep e2
      replace e3 := x2.keep e3
      replace e4 := x2.keep e4
      replace e5 := x2.keep e5
      clear hfd hW1 xW1 x2
      have hlw2 : wr.heap.size ≤ W2.heap.size := xW2.size
      have hw0 : Ext w0 wr := hend0.out _ hG
      have xr2 : Ext wr W2 := xW2
      go_wp2_with (at_builtin; go_loud (refine wpList_append_E (w0 := W2) rfl (.tmp 50) (.tmp 51) rfl _ [] rfl (OwnE.empty (Ext.refl _)) ((Ext.refl _).alloc _) A6 l.length c6 l rfl rfl (hEl.out.ext (xW2.alloc _)) (by simp only [List.length_nil]; omega) ?_; intro v4 W4 o4 x4 _ _; rw [List.nil_append] at o4; have e0' := x4.keep e0))
      obtain ⟨W6, hW6⟩ : ∃ Z, W4.alloc (.cells #[.slice none 0 0, .pointer none, .pointer none, Vi 0, Vi 0, Vi 0, Vq 0, Vq 0] 31) = Z := ⟨_, rfl⟩
      have x46 : Ext W4 W6 := by rw [← hW6]; exact (Ext.refl _).alloc _
      have hpy6 : W6.heap[W4.heap.size]? = some (.cells #[.slice none 0 0, .pointer none, .pointer none, Vi 0, Vi 0, Vi 0, Vq 0, Vq 0] 31 (0, 0)) := by rw [← hW6]; exact heap_alloc_new _ _
      refine (pick_any dd.what 3 _ (by omega) (by omega) hwh).mono ?_
      rintro e W5 ⟨kk, hkk, rfl, hW5⟩
      subst hW5
      have xr4 : Ext wr W4 := xW2.trans x4
      have xr6 := xr4.trans x46
      have x26 := x4.trans x46
      obtain ⟨py, hpyd⟩ : ∃ q, W4.heap.size = q := ⟨_, rfl⟩
      have hpyr : W2.heap.size ≤ py := by rw [← hpyd]; exact x4.size
      have hsz6 : W6.heap.size = py + 1 := by rw [← hW6, ← hpyd]; simp
      have o46 := Lib.hid (o4.ext x46)
      have o4lt := OwnE.lt o4
      have hpx6 : W6.heap[px]? = some (.cells #[.slice xv.A xv.n xv.c, .pointer xv.l, .pointer xv.r, Vi xv.h, Vi xv.m, Vi xv.s, Vq xv.lo, Vq xv.hi] 31 (0, 0)) := by rw [RowKit.Below.block xr6 px (Array.getElem?_eq_some_iff.1 hxb).1]; exact hxb
      have hpxr : px < wr.heap.size := (Array.getElem?_eq_some_iff.1 hxb).1
      have u1 := x26.keep e1
      have u2 := x26.keep e2
      have u3 := x26.keep e3
      have u4 := x26.keep e4
      have u5 := x26.keep e5
      have hdr : wr.heap.size < W2.heap.size := World.block_lt_of_cell? _ _ e0
      obtain ⟨pd, hpdd⟩ : ∃ q, wr.heap.size = q := ⟨_, rfl⟩
      have ol6 := Lib.hid (ho.out.ext xr6)
      have ollt := OwnE.lt ho.out
      have hI6 := Lib.hid (M.ext hI.out xr6)
      have hIlt : ∀ b, F b → b < pd := fun b hb => by rw [← hpdd]; exact M.lt hI.out hb
      have hG6 := hG.ext xr6
      have hbx6 := Lib.hid (Bx.row hpx6)
      have hcode0 := Lib.hid (fun Z => code_zero Z)
      have hcode1 := Lib.hid (fun Z => code_any 1 Z (by omega) (by omega))
      have hcode3 := Lib.hid (fun Z => code_any 3 Z (by omega) (by omega))
      rw [hpdd] at u1 u2 u3 u4 u5 hpxr hdr ollt
      rw [hpyd] at hpy6 o4lt
      have hBpd : B ≤ pd := by have := hG.size; omega
      /- what a store to a block beyond pd leaves -/
      have hIk : ∀ (Z Z' : World) (s : Nat), Ix F Z (ixv xv) l → pd ≤ s → (∀ b, b ≠ s → Z'.heap[b]? = Z.heap[b]?) → Ix F Z' (ixv xv) l := fun Z Z' s h hs hb => M.frame h (fun b hF => hb b (by have := hIlt b hF; omega))
      replace hIk := Lib.hid hIk
      clear e0 e1 e2 e3 e4 e5 x4 x46 x26 o4 hI ho hxb xW2 e0'
      have hpyr' : pd < py := by omega
      go_upto_if 56 with fail
      go_cut [11, 12, 14] (CutRel Ix w0 w4 B px pd py F xv A6 c6 l dd.e.c dd.e.k)
      case first =>
        obtain ⟨a0, a1, a2, a3, a4, a5, a6, a7⟩ := hbx6.out
        by_cases hk2 : kk = 2
        · subst hk2
          cases hf : findE l dd.e.c dd.e.k with
          | none =>
            have hc := Lib.hid (M.hideNo F W6 _ l dd.e.c dd.e.k hI6.out (by omega) hf)
            obtain rfl : kr = -1 := by rw [← hkr.out, findV_none hf]
            go_wp2_with fail
            refine hc.out.mono ?_
            rintro e W7 ⟨rfl, x7⟩
            have hpy7 : W7.heap[py]? = some (.cells #[.slice none 0 0, .pointer none, .pointer none, Vi 0, Vi 0, Vi 0, Vq 0, Vq 0] 31 (0, 0)) := by rw [RowKit.Below.block x7 py (by omega)]; exact hpy6
            have kc0 := cell_of_row W7 py 0 _ _ _ hpy7
            have f0 := frozen_of_row W7 py 0 _ _ hpy7
            have kc1 := cell_of_row W7 py 1 _ _ _ hpy7
            have f1 := frozen_of_row W7 py 1 _ _ hpy7
            have kc2 := cell_of_row W7 py 2 _ _ _ hpy7
            have f2 := frozen_of_row W7 py 2 _ _ hpy7
            have kc3 := cell_of_row W7 py 3 _ _ _ hpy7
            have f3 := frozen_of_row W7 py 3 _ _ hpy7
            have kc4 := cell_of_row W7 py 4 _ _ _ hpy7
            have f4 := frozen_of_row W7 py 4 _ _ hpy7
            have kc5 := cell_of_row W7 py 5 _ _ _ hpy7
            have f5 := frozen_of_row W7 py 5 _ _ hpy7
            have kc6 := cell_of_row W7 py 6 _ _ _ hpy7
            have f6 := frozen_of_row W7 py 6 _ _ hpy7
            have kc7 := cell_of_row W7 py 7 _ _ _ hpy7
            have f7 := frozen_of_row W7 py 7 _ _ hpy7
            have hrel8 := Lib.hid (cut_bad M (c := dd.e.c) (k := dd.e.k) v4 1 (by omega) (by omega) hI6 ol6 hpx6 hG6 u2 u3 x7 (RX.st8 W7 py (.slice none 0 0) (.pointer none) (.pointer none) (Vi 0) (Vi 0) (Vi 0) (Vq 0) (Vq 0)) hIlt (fun b hb => (ollt b hb).2) hpyr' hpxr hBpd)
            clear hc hpy7 a0 a1 a2 a3 a4 a5 a6 a7
            go_wp2
            go_meet
            exact hrel8.out
          | some q =>
            have hc := Lib.hid (M.hide F W6 _ l dd.e.c dd.e.k q hI6.out (by omega) hla hlw hf)
            obtain rfl : kr = (q : Int) := by rw [← hkr.out, findV_some hf]
            have hql := find_lt hf
            obtain ⟨x, hxq, _⟩ := find_some hf
            have hset := Lib.hid (hide_set hla hf hxq)
            have hq0 : decide ((q : Int) < 0) = false := by rw [decide_eq_false_iff_not]; omega
            have hqi1 : (0 : Int) ≤ (q : Int) := by omega
            have hqi2 : (q : Int) < (l.length : Int) := by omega
            go_wp2_with fail
            refine hc.out.mono ?_
            rintro e W7 ⟨F', v', rfl, hI7, hF', x7⟩
            obtain ⟨yv, rfl⟩ := M.shape hI7
            have hpy7 : W7.heap[py]? = some (.cells #[.slice none 0 0, .pointer none, .pointer none, Vi 0, Vi 0, Vi 0, Vq 0, Vq 0] 31 (0, 0)) := by rw [RowKit.Below.block x7 py (by omega)]; exact hpy6
            have kc0 := cell_of_row W7 py 0 _ _ _ hpy7
            have f0 := frozen_of_row W7 py 0 _ _ hpy7
            have kc1 := cell_of_row W7 py 1 _ _ _ hpy7
            have f1 := frozen_of_row W7 py 1 _ _ hpy7
            have kc2 := cell_of_row W7 py 2 _ _ _ hpy7
            have f2 := frozen_of_row W7 py 2 _ _ hpy7
            have kc3 := cell_of_row W7 py 3 _ _ _ hpy7
            have f3 := frozen_of_row W7 py 3 _ _ hpy7
            have kc4 := cell_of_row W7 py 4 _ _ _ hpy7
            have f4 := frozen_of_row W7 py 4 _ _ hpy7
            have kc5 := cell_of_row W7 py 5 _ _ _ hpy7
            have f5 := frozen_of_row W7 py 5 _ _ hpy7
            have kc6 := cell_of_row W7 py 6 _ _ _ hpy7
            have f6 := frozen_of_row W7 py 6 _ _ hpy7
            have kc7 := cell_of_row W7 py 7 _ _ _ hpy7
            have f7 := frozen_of_row W7 py 7 _ _ hpy7
            have hF'' : ∀ b, F' b → b < pd ∨ py < b := fun b hb => by
              rcases hF' b hb with h | h
              · exact .inl (hIlt b h)
              · exact .inr (by omega)
            have hF3 : ¬ F' px := fun h => by
              rcases hF' px h with h | h
              · exact hFp h
              · omega
            obtain ⟨W8, hW8⟩ : ∃ Z, ((((((((W7.setCell ⟨py, 0, none⟩ (.slice yv.A yv.n yv.c)).setCell ⟨py, 1, none⟩ (.pointer yv.l)).setCell ⟨py, 2, none⟩ (.pointer yv.r)).setCell ⟨py, 3, none⟩ (Vi yv.h)).setCell ⟨py, 4, none⟩ (Vi yv.m)).setCell ⟨py, 5, none⟩ (Vi yv.s)).setCell ⟨py, 6, none⟩ (Vq yv.lo)).setCell ⟨py, 7, none⟩ (Vq yv.hi)) = Z := ⟨_, rfl⟩
            have r8 : RX py W7 W8 := by rw [← hW8]; exact RX.st8 W7 py (.slice yv.A yv.n yv.c) (.pointer yv.l) (.pointer yv.r) (Vi yv.h) (Vi yv.m) (Vi yv.s) (Vq yv.lo) (Vq yv.hi)
            have hpy8 : W8.heap[py]? = some (.cells #[.slice yv.A yv.n yv.c, .pointer yv.l, .pointer yv.r, Vi yv.h, Vi yv.m, Vi yv.s, Vq yv.lo, Vq yv.hi] 31 (0, 0)) := by rw [← hW8]; exact st8_row hpy7 (.slice yv.A yv.n yv.c) (.pointer yv.l) (.pointer yv.r) (Vi yv.h) (Vi yv.m) (Vi yv.s) (Vq yv.lo) (Vq yv.hi)
            have hpx8 : W8.heap[px]? = some (.cells #[.slice xv.A xv.n xv.c, .pointer xv.l, .pointer xv.r, Vi xv.h, Vi xv.m, Vi xv.s, Vq xv.lo, Vq xv.hi] 31 (0, 0)) := r8.blk (by rw [RowKit.Below.block x7 px (by omega)]; exact hpx6) (by omega)
            have hb8 : ∀ b, b ≠ py → W8.heap[b]? = W7.heap[b]? := fun b hb => by rw [← hW8]; exact st8_other hb (.slice yv.A yv.n yv.c) (.pointer yv.l) (.pointer yv.r) (Vi yv.h) (Vi yv.m) (Vi yv.s) (Vq yv.lo) (Vq yv.hi)
            have hI8 := hIk.out W7 W8 py (M.ext hI6.out x7) (by omega) hb8
            have hJ8 := M.frame hI7 (fun b hb => hb8 b (by have := hF'' b hb; omega))
            have ol8 := (ol6.out.ext x7).kept r8 (.inr fun e => by have := ollt _ e; omega)
            have hG8 := (hG6.ext x7).on r8 (fun b e => by injection e with e; left; omega)
            have on8 := (o46.out.ext x7).kept r8 (.inr fun e => by have := (o4lt _ e).2; omega)
            have v2 := r8.cell (x7.keep u2) (by omega)
            have v3 := r8.cell (x7.keep u3) (by omega)
            obtain ⟨g, cg, hvg, _, hg2⟩ := OwnE.block on8 (by omega)
            subst hvg
            have hgy := o4lt g rfl
            obtain ⟨on9, gr9, fz9⟩ := OwnE.hide on8 hxq
            obtain ⟨_, _, hvz, hcg, hEn8⟩ := OwnE.open on8
            injection hvz with hvza _ hvzc
            subst hvza
            subst hvzc
            obtain ⟨bz, oz, x', ez, hxz, dz⟩ := hEn8.at (k := q) hql
            injection ez with ez
            injection ez with ez1 ez2
            subst ez1
            subst ez2
            have c9 := dz.c3
            rw [Nat.zero_add] at c9
            obtain ⟨W9, hW9⟩ : ∃ Z, W8.setCell ⟨g, q * 4 + 3, none⟩ (.bool true) = Z := ⟨_, rfl⟩
            rw [hW9] at on9 gr9
            rw [← hset.out] at on9
            have hb9 : ∀ b, b ≠ g → W9.heap[b]? = W8.heap[b]? := fun b hb => by rw [← hW9]; exact heap_setCell_other _ _ _ _ hb
            have r9 : RX g W8 W9 := gr9
            have hI9 := hIk.out W8 W9 g hI8 (by omega) hb9
            have hJ9 := M.frame hJ8 (fun b hb => hb9 b (by have := hF'' b hb; omega))
            have ol9 := ol8.kept gr9 (.inr fun e => by have := (ollt _ e).2; omega)
            have hpx9 := r9.blk hpx8 (by omega)
            have hpy9 := r9.blk hpy8 (by omega)
            have hG9 := hG8.on gr9 (fun b e => by injection e with e; left; omega)
            have t2 := r9.cell v2 (by omega)
            have t3 := r9.cell v3 (by omega)
            have hlen := hide_len l dd.e.c dd.e.k
            have hla' := hide_apart l dd.e.c dd.e.k hla
            have hlw' : ∀ y ∈ hideE l dd.e.c dd.e.k, wfE y := hide_wf hlw
            have hgp : g ≠ px := by omega
            have on11' : OwnE w0 W9 (.slice (some ⟨g, 0, none⟩) (hideE l dd.e.c dd.e.k).length cg) (hideE l dd.e.c dd.e.k) := by
              rw [hlen]
              exact on9.down (hw0.trans (xr2.trans (Ext.refl _)))
            have p5 : (Value.slice (some ⟨g, 0, none⟩) (hideE l dd.e.c dd.e.k).length cg).ownBlock = none ∨ (Value.slice (some ⟨g, 0, none⟩) (hideE l dd.e.c dd.e.k).length cg).ownBlock ≠ some px := .inr (fun e => by have h1 : some g = some px := e; injection h1 with h1; exact hgp h1)
            have hrel9 := Lib.hid (show CutRel Ix w0 w4 B px pd py F xv A6 c6 l dd.e.c dd.e.k (.slice (some ⟨g, 0, none⟩) l.length cg) (Vi 0) .nilIface W9 from
              ⟨Lib.hid hI9, Lib.hid ol9, hpx9, hG9, t2, t3, .inr ⟨rfl, rfl, F', yv, hideE l dd.e.c dd.e.k, some ⟨g, 0, none⟩, cg, by rw [hlen], by rw [hlen]; exact hcg, by rw [hlen]; omega, hla', hlw', Lib.hid on11', p5, Lib.hid hJ9, hF3, hpy9⟩⟩)
            clear hc hpy7 hxz dz hEn8 hJ8 hI8 hI7 on8 ol8 on11' p5 hla' hlw' hJ9 hI9 on9 ol9 a0 a1 a2 a3 a4 a5 a6 a7
            go_wp2
            go_meet
            exact hrel9.out
        · have hkk2 : decide ((kk : Int) = 2) = false := by rw [decide_eq_false_iff_not]; omega
          have hkb : ((kk : Int) == 2) = false := by simp; omega
          have hpk := pick_any dd.at' (l.length + 3) W6 (by omega) (by omega) hwa
          rw [show ((l.length + 3 : Nat) : Int) = (l.length : Int) + 3 by omega] at hpk
          have hwr3 : IntKind.i64.wrap ((l.length : Int) + 3) = (l.length : Int) + 3 := IntWalk.i64_in _ (by omega)
          replace hpk := Lib.hid hpk
          go_wp2_with fail
          refine hpk.out.mono ?_
          rintro e W6b ⟨k2, hk2l, rfl, hWb⟩
          subst hWb
          have hwr1 : IntKind.i64.wrap ((k2 : Int) - 1) = (k2 : Int) - 1 := IntWalk.i64_in _ (by omega)
          obtain ⟨z, hz⟩ : ∃ z : Int, (k2 : Int) - 1 = z := ⟨_, rfl⟩
          have hz1 : -1 ≤ z ∧ z ≤ (l.length : Int) + 1 := by omega
          rw [hz] at hwr1
          by_cases hout : z < 0 ∨ (l.length : Int) < z
          · have hc := Lib.hid (M.putRange F W6 _ l z dd.e hI6.out (by omega) (by omega) hout)
            by_cases hneg : z < 0
            · have hd1 : decide (z < 0) = true := decide_eq_true hneg
              go_wp2_with fail
              refine hc.out.mono ?_
              rintro e W7 ⟨rfl, x7⟩
              have hpy7 : W7.heap[py]? = some (.cells #[.slice none 0 0, .pointer none, .pointer none, Vi 0, Vi 0, Vi 0, Vq 0, Vq 0] 31 (0, 0)) := by rw [RowKit.Below.block x7 py (by omega)]; exact hpy6
              have kc0 := cell_of_row W7 py 0 _ _ _ hpy7
              have f0 := frozen_of_row W7 py 0 _ _ hpy7
              have kc1 := cell_of_row W7 py 1 _ _ _ hpy7
              have f1 := frozen_of_row W7 py 1 _ _ hpy7
              have kc2 := cell_of_row W7 py 2 _ _ _ hpy7
              have f2 := frozen_of_row W7 py 2 _ _ hpy7
              have kc3 := cell_of_row W7 py 3 _ _ _ hpy7
              have f3 := frozen_of_row W7 py 3 _ _ hpy7
              have kc4 := cell_of_row W7 py 4 _ _ _ hpy7
              have f4 := frozen_of_row W7 py 4 _ _ hpy7
              have kc5 := cell_of_row W7 py 5 _ _ _ hpy7
              have f5 := frozen_of_row W7 py 5 _ _ hpy7
              have kc6 := cell_of_row W7 py 6 _ _ _ hpy7
              have f6 := frozen_of_row W7 py 6 _ _ hpy7
              have kc7 := cell_of_row W7 py 7 _ _ _ hpy7
              have f7 := frozen_of_row W7 py 7 _ _ hpy7
              have hrel8 := Lib.hid (cut_bad M (c := dd.e.c) (k := dd.e.k) v4 3 (by omega) (by omega) hI6 ol6 hpx6 hG6 u2 u3 x7 (RX.st8 W7 py (.slice none 0 0) (.pointer none) (.pointer none) (Vi 0) (Vi 0) (Vi 0) (Vq 0) (Vq 0)) hIlt (fun b hb => (ollt b hb).2) hpyr' hpxr hBpd)
              clear hc hpy7 a0 a1 a2 a3 a4 a5 a6 a7
              go_wp2
              go_meet
              exact hrel8.out
            · have hd1 : decide (z < 0) = false := decide_eq_false hneg
              have hd2 : decide ((l.length : Int) < z) = true := decide_eq_true (by omega)
              go_wp2_with fail
              refine hc.out.mono ?_
              rintro e W7 ⟨rfl, x7⟩
              have hpy7 : W7.heap[py]? = some (.cells #[.slice none 0 0, .pointer none, .pointer none, Vi 0, Vi 0, Vi 0, Vq 0, Vq 0] 31 (0, 0)) := by rw [RowKit.Below.block x7 py (by omega)]; exact hpy6
              have kc0 := cell_of_row W7 py 0 _ _ _ hpy7
              have f0 := frozen_of_row W7 py 0 _ _ hpy7
              have kc1 := cell_of_row W7 py 1 _ _ _ hpy7
              have f1 := frozen_of_row W7 py 1 _ _ hpy7
              have kc2 := cell_of_row W7 py 2 _ _ _ hpy7
              have f2 := frozen_of_row W7 py 2 _ _ hpy7
              have kc3 := cell_of_row W7 py 3 _ _ _ hpy7
              have f3 := frozen_of_row W7 py 3 _ _ hpy7
              have kc4 := cell_of_row W7 py 4 _ _ _ hpy7
              have f4 := frozen_of_row W7 py 4 _ _ hpy7
              have kc5 := cell_of_row W7 py 5 _ _ _ hpy7
              have f5 := frozen_of_row W7 py 5 _ _ hpy7
              have kc6 := cell_of_row W7 py 6 _ _ _ hpy7
              have f6 := frozen_of_row W7 py 6 _ _ hpy7
              have kc7 := cell_of_row W7 py 7 _ _ _ hpy7
              have f7 := frozen_of_row W7 py 7 _ _ hpy7
              have hrel8 := Lib.hid (cut_bad M (c := dd.e.c) (k := dd.e.k) v4 3 (by omega) (by omega) hI6 ol6 hpx6 hG6 u2 u3 x7 (RX.st8 W7 py (.slice none 0 0) (.pointer none) (.pointer none) (Vi 0) (Vi 0) (Vi 0) (Vq 0) (Vq 0)) hIlt (fun b hb => (ollt b hb).2) hpyr' hpxr hBpd)
              clear hc hpy7 a0 a1 a2 a3 a4 a5 a6 a7
              go_wp2
              go_meet
              exact hrel8.out
          · obtain ⟨p, rfl⟩ : ∃ p : Nat, z = p := ⟨z.toNat, by omega⟩
            have hd1 : decide ((p : Int) < 0) = false := decide_eq_false (by omega)
            have hd2 : decide ((l.length : Int) < (p : Int)) = false := decide_eq_false (by omega)
            cases hf : findE l dd.e.c dd.e.k with
            | some q =>
              have hhas : hasE l dd.e.c dd.e.k = true := by
                cases hh : hasE l dd.e.c dd.e.k with
                | true => rfl
                | false => rw [find_none.2 hh] at hf; cases hf
              have hc := Lib.hid (M.putArg F W6 _ l p dd.e hI6.out (by omega) (by omega) hhas)
              obtain rfl : kr = (q : Int) := by rw [← hkr.out, findV_some hf]
              have hq0 : decide ((0 : Int) ≤ (q : Int)) = true := decide_eq_true (by omega)
              go_wp2_with fail
              refine hc.out.mono ?_
              rintro e W7 ⟨rfl, x7⟩
              have hpy7 : W7.heap[py]? = some (.cells #[.slice none 0 0, .pointer none, .pointer none, Vi 0, Vi 0, Vi 0, Vq 0, Vq 0] 31 (0, 0)) := by rw [RowKit.Below.block x7 py (by omega)]; exact hpy6
              have kc0 := cell_of_row W7 py 0 _ _ _ hpy7
              have f0 := frozen_of_row W7 py 0 _ _ hpy7
              have kc1 := cell_of_row W7 py 1 _ _ _ hpy7
              have f1 := frozen_of_row W7 py 1 _ _ hpy7
              have kc2 := cell_of_row W7 py 2 _ _ _ hpy7
              have f2 := frozen_of_row W7 py 2 _ _ hpy7
              have kc3 := cell_of_row W7 py 3 _ _ _ hpy7
              have f3 := frozen_of_row W7 py 3 _ _ hpy7
              have kc4 := cell_of_row W7 py 4 _ _ _ hpy7
              have f4 := frozen_of_row W7 py 4 _ _ hpy7
              have kc5 := cell_of_row W7 py 5 _ _ _ hpy7
              have f5 := frozen_of_row W7 py 5 _ _ hpy7
              have kc6 := cell_of_row W7 py 6 _ _ _ hpy7
              have f6 := frozen_of_row W7 py 6 _ _ hpy7
              have kc7 := cell_of_row W7 py 7 _ _ _ hpy7
              have f7 := frozen_of_row W7 py 7 _ _ hpy7
              have hrel8 := Lib.hid (cut_bad M (c := dd.e.c) (k := dd.e.k) v4 1 (by omega) (by omega) hI6 ol6 hpx6 hG6 u2 u3 x7 (RX.st8 W7 py (.slice none 0 0) (.pointer none) (.pointer none) (Vi 0) (Vi 0) (Vi 0) (Vq 0) (Vq 0)) hIlt (fun b hb => (ollt b hb).2) hpyr' hpxr hBpd)
              clear hc hpy7 a0 a1 a2 a3 a4 a5 a6 a7
              go_wp2
              go_meet
              exact hrel8.out
            | none =>
              obtain rfl : kr = -1 := by rw [← hkr.out, findV_none hf]
              have hhas : hasE l dd.e.c dd.e.k = false := find_none.1 hf
              have hc := Lib.hid (M.put F W6 _ l p dd.e hI6.out (by omega) hla hlw hwe (by omega) hhas)
              have hpl : p ≤ l.length := by omega
              go_wp2_with fail
              refine hc.out.mono ?_
              rintro e W7 ⟨F', v', rfl, hI7, hF', x7⟩
              obtain ⟨yv, rfl⟩ := M.shape hI7
              have hpy7 : W7.heap[py]? = some (.cells #[.slice none 0 0, .pointer none, .pointer none, Vi 0, Vi 0, Vi 0, Vq 0, Vq 0] 31 (0, 0)) := by rw [RowKit.Below.block x7 py (by omega)]; exact hpy6
              have kc0 := cell_of_row W7 py 0 _ _ _ hpy7
              have f0 := frozen_of_row W7 py 0 _ _ hpy7
              have kc1 := cell_of_row W7 py 1 _ _ _ hpy7
              have f1 := frozen_of_row W7 py 1 _ _ hpy7
              have kc2 := cell_of_row W7 py 2 _ _ _ hpy7
              have f2 := frozen_of_row W7 py 2 _ _ hpy7
              have kc3 := cell_of_row W7 py 3 _ _ _ hpy7
              have f3 := frozen_of_row W7 py 3 _ _ hpy7
              have kc4 := cell_of_row W7 py 4 _ _ _ hpy7
              have f4 := frozen_of_row W7 py 4 _ _ hpy7
              have kc5 := cell_of_row W7 py 5 _ _ _ hpy7
              have f5 := frozen_of_row W7 py 5 _ _ hpy7
              have kc6 := cell_of_row W7 py 6 _ _ _ hpy7
              have f6 := frozen_of_row W7 py 6 _ _ hpy7
              have kc7 := cell_of_row W7 py 7 _ _ _ hpy7
              have f7 := frozen_of_row W7 py 7 _ _ hpy7
              have hF'' : ∀ b, F' b → b < pd ∨ py < b := fun b hb => by
                rcases hF' b hb with h | h
                · exact .inl (hIlt b h)
                · exact .inr (by omega)
              have hF3 : ¬ F' px := fun h => by
                rcases hF' px h with h | h
                · exact hFp h
                · omega
              obtain ⟨W8, hW8⟩ : ∃ Z, ((((((((W7.setCell ⟨py, 0, none⟩ (.slice yv.A yv.n yv.c)).setCell ⟨py, 1, none⟩ (.pointer yv.l)).setCell ⟨py, 2, none⟩ (.pointer yv.r)).setCell ⟨py, 3, none⟩ (Vi yv.h)).setCell ⟨py, 4, none⟩ (Vi yv.m)).setCell ⟨py, 5, none⟩ (Vi yv.s)).setCell ⟨py, 6, none⟩ (Vq yv.lo)).setCell ⟨py, 7, none⟩ (Vq yv.hi)) = Z := ⟨_, rfl⟩
              have r8 : RX py W7 W8 := by rw [← hW8]; exact RX.st8 W7 py (.slice yv.A yv.n yv.c) (.pointer yv.l) (.pointer yv.r) (Vi yv.h) (Vi yv.m) (Vi yv.s) (Vq yv.lo) (Vq yv.hi)
              have hpy8 : W8.heap[py]? = some (.cells #[.slice yv.A yv.n yv.c, .pointer yv.l, .pointer yv.r, Vi yv.h, Vi yv.m, Vi yv.s, Vq yv.lo, Vq yv.hi] 31 (0, 0)) := by rw [← hW8]; exact st8_row hpy7 (.slice yv.A yv.n yv.c) (.pointer yv.l) (.pointer yv.r) (Vi yv.h) (Vi yv.m) (Vi yv.s) (Vq yv.lo) (Vq yv.hi)
              have hpx8 : W8.heap[px]? = some (.cells #[.slice xv.A xv.n xv.c, .pointer xv.l, .pointer xv.r, Vi xv.h, Vi xv.m, Vi xv.s, Vq xv.lo, Vq xv.hi] 31 (0, 0)) := r8.blk (by rw [RowKit.Below.block x7 px (by omega)]; exact hpx6) (by omega)
              have hb8 : ∀ b, b ≠ py → W8.heap[b]? = W7.heap[b]? := fun b hb => by rw [← hW8]; exact st8_other hb (.slice yv.A yv.n yv.c) (.pointer yv.l) (.pointer yv.r) (Vi yv.h) (Vi yv.m) (Vi yv.s) (Vq yv.lo) (Vq yv.hi)
              have hI8 := hIk.out W7 W8 py (M.ext hI6.out x7) (by omega) hb8
              have hJ8 := M.frame hI7 (fun b hb => hb8 b (by have := hF'' b hb; omega))
              have ol8 := (ol6.out.ext x7).kept r8 (.inr fun e => by have := ollt _ e; omega)
              have hG8 := (hG6.ext x7).on r8 (fun b e => by injection e with e; left; omega)
              have hd0 := r8.cell (x7.keep u2) (by omega)
              have hd1 := r8.cell (x7.keep u3) (by omega)
              have hd2 := r8.cell (x7.keep u4) (by omega)
              have hd3 := r8.cell (x7.keep u5) (by omega)
              obtain ⟨A0, c0, hv0, _, hEl8⟩ := OwnE.open ol8
              injection hv0 with hva _ hvc
              subst hva
              subst hvc
              have hlt := hEl8.take p
              have hltl : (l.take p).length = p := by rw [List.length_take]; omega
              have hupto := uptoE A6 l.length c6 p (by omega) (p : Int) rfl
              have hfrom := fromE A6 l.length c6 p hpl (p : Int) rfl
              have hcut := hEl8.cut rfl hc6 hpl
              have hw08 : Ext w0 W8 := (hw0.trans (xr6.trans x7)).trans (Ext.refl _) |> fun h => RX.down h (by omega) r8
              have hlpx : px < W8.heap.size := (Array.getElem?_eq_some_iff.1 hpx8).1
              have hlpy : py < W8.heap.size := (Array.getElem?_eq_some_iff.1 hpy8).1
              clear hc hpy7 hI7 a0 a1 a2 a3 a4 a5 a6 a7
              go_wp2_with fail
              clear kc0 kc1 kc2 kc3 kc4 kc5 kc6 kc7 f0 f1 f2 f3 f4 f5 f6 f7
              refine wp_soft_frame Ext 8 (xplTab W8 W8.heap.size pd l.length c6 p A6 (l.take p) dd.e) (by kernel_rfl) (by kernel_rfl) (fun _ _ _ => Ext.trans) ((Ext.refl _).drew) rfl (by show List.Nodup [96, 97, 98, 99, 100, 101, 102, 103]; decide) (by show ∀ d ∈ [96, 97, 98, 99, 100, 101, 102, 103], d < 135; decide) (xplTab_mono W8 W8.heap.size pd l.length c6 p A6 (l.take p) dd.e) ?_ ⟨?_, ?_, ?_, ?_, ?_, ?_, ?_, ?_, trivial⟩
              · intro W9 vs hT' hRx
                match vs, hT' with
                | [v0, v1, v2, v3, v4', v5, v6, v7], ⟨e0, e1, e2, e3, e4, e5, e6, e7, _⟩ =>
                  simp only [xplTab, List.map_cons, List.map_nil, List.zip_cons_cons, List.zip_nil_left, putAll, List.setIfInBounds_toArray, List.set_cons_zero, List.set_cons_succ, List.drop_succ_cons, List.drop_zero]
                  simp only at e0 e1 e2 e3 e4 e5 e6 e7
                  obtain ⟨qa, e0, _, _⟩ := e0
                  obtain ⟨qb, e7, hbox⟩ := e7
                  rw [e0, e1, e2, e3, e5, e6, e7]
                  clear e0 e1 e2 e3 e5 e6 e7 v0 v1 v2 v3 v5 v6 v7 hT'
                  have hcut9 := hcut.ext hRx
                  refine wpList_append_E (w0 := W8) rfl (.tmp 100) (.tmp 103) rfl v4' (l.take p) rfl e4 hRx _ 1 1 [dd.e] rfl rfl hbox.row (by simp only [List.length_cons, List.length_nil]; omega) ?_
                  intro v10 W10 o10 x10 g10 _
                  have hcut10 := hcut.ext x10
                  clear hlt
                  have hdl : (l.drop p).length = l.length - p := List.length_drop
                  go_wp2_with (at_builtin; go_loud (refine wpList_append_E (w0 := W8) rfl (.tmp 105) (.tmp 108) rfl v10 (l.take p ++ [dd.e]) rfl o10 x10 _ _ _ (l.drop p) rfl hdl hcut10 (by simp only [List.length_append, List.length_cons, List.length_nil, hltl, hdl]; omega) ?_; intro v11 W11 o11 x11 g11 _))
                  go_meet
                  have hput : l.take p ++ [dd.e] ++ l.drop p = putE l p dd.e := rfl
                  rw [hput] at o11
                  have hplen := put_len (x := dd.e) hpl
                  have hpx11 : W11.heap[px]? = some (.cells #[.slice xv.A xv.n xv.c, .pointer xv.l, .pointer xv.r, Vi xv.h, Vi xv.m, Vi xv.s, Vq xv.lo, Vq xv.hi] 31 (0, 0)) := by rw [RowKit.Below.block x11 px hlpx]; exact hpx8
                  have hpy11 : W11.heap[py]? = some (.cells #[.slice yv.A yv.n yv.c, .pointer yv.l, .pointer yv.r, Vi yv.h, Vi yv.m, Vi yv.s, Vq yv.lo, Vq yv.hi] 31 (0, 0)) := by rw [RowKit.Below.block x11 py hlpy]; exact hpy8
                  exact cut_put M hI8 hJ8 hG8 ol8 hpx11 hpy11 x11 (x11.keep hd0) (x11.keep hd1) o11 (o11.down hw08) hlpx hplen (put_apart (p := p) hla hhas) (put_wf (p := p) hlw hwe) hF3
              · refine softR_val 96 _ (by kernel_rfl) rfl rfl ?_
                intro a W hx hout hdep
                refine ⟨rfl, .slice (some ⟨W.heap.size, 0, none⟩) 0 0, _, ?_, ⟨_, rfl, by have := hx.size; omega, heap_alloc_new W _⟩, (Ext.refl W).alloc _⟩
                simp [execOp, go_sem]
              · refine softR_val 97 _ (by kernel_rfl) rfl rfl ?_
                intro a W hx hout hdep
                have ev6 : a.tmps[6]?.getD undef = .slice A6 l.length c6 := by rw [← Array.getD_eq_getD_getElem?]; exact hout 6 (by show 6 ∉ [96, 97, 98, 99, 100, 101, 102, 103]; decide)
                refine ⟨rfl, .slice A6 l.length c6, W, ?_, rfl, Ext.refl _⟩
                simp [ev6, execOp, go_sem]
              · refine softR_val 98 _ (by kernel_rfl) rfl rfl ?_
                intro a W hx hout hdep
                have ev15 : a.tmps[15]?.getD undef = Vi (p : Int) := by rw [← Array.getD_eq_getD_getElem?]; exact hout 15 (by show 15 ∉ [96, 97, 98, 99, 100, 101, 102, 103]; decide)
                refine ⟨rfl, Vi (p : Int), W, ?_, rfl, Ext.refl _⟩
                simp [ev15, execOp, go_sem]
              · refine softR_val 99 _ (by kernel_rfl) rfl rfl ?_
                intro a W hx hout hdep
                have ev97 : a.tmps[97]?.getD undef = .slice A6 l.length c6 := by rw [← Array.getD_eq_getD_getElem?]; exact (hdep ⟨1, .data⟩ (by simp) rfl 97 _ rfl).1
                have ev98 : a.tmps[98]?.getD undef = Vi (p : Int) := by rw [← Array.getD_eq_getD_getElem?]; exact (hdep ⟨2, .data⟩ (by simp) rfl 98 _ rfl).1
                refine ⟨rfl, .slice A6 p c6, W, ?_, rfl, Ext.refl _⟩
                simp [ev97, ev98, hupto, execOp, go_sem]
              · refine softR_val 100 _ (by kernel_rfl) rfl rfl ?_
                intro a W hx hout hdep
                have tl96 := (hdep ⟨0, .data⟩ (by simp) rfl 96 _ rfl).1
                have ev99 : a.tmps[99]?.getD undef = .slice A6 p c6 := by rw [← Array.getD_eq_getD_getElem?]; exact (hdep ⟨3, .data⟩ (by simp) rfl 99 _ rfl).1
                obtain ⟨q9, eq9, hq9, hc9⟩ := tl96
                have hs9 : a.eval (.tmp 96) = .slice (some ⟨q9, 0, none⟩) 0 0 := eq9
                have ht9 : a.eval (.tmp 99) = .slice A6 p c6 := (hdep ⟨3, .data⟩ (by simp) rfl 99 _ rfl).1
                obtain ⟨v9, w9, hrun9, ho9, hx9⟩ := run_append_E0 W8 W 22 q9 (l.take p) A6 p c6 hltl (hlt.ext hx) hx (by omega) (by omega) hc9
                refine ⟨rfl, v9, w9, ?_, ho9, hx9⟩
                simp only [execOp, resolve, invoke, builtin, Sem.run_bind, Sem.run_pure, Result.andThen_ok, List.map_toArray, List.map_cons, List.map_nil, hs9, ht9, hrun9]
              · refine softR_val 101 _ (by kernel_rfl) rfl rfl ?_
                intro a W hx hout hdep
                have ev9 : a.tmps[9]?.getD undef = .pointer (some ⟨pd, 0, none⟩) := by rw [← Array.getD_eq_getD_getElem?]; exact hout 9 (by show 9 ∉ [96, 97, 98, 99, 100, 101, 102, 103]; decide)
                refine ⟨rfl, .pointer (some ⟨pd, 2, none⟩), W, ?_, rfl, Ext.refl _⟩
                simp [ev9, execOp, go_sem]
              · refine softR_val 102 _ (by kernel_rfl) rfl rfl ?_
                intro a W hx hout hdep
                have ev101 : a.tmps[101]?.getD undef = .pointer (some ⟨pd, 2, none⟩) := by rw [← Array.getD_eq_getD_getElem?]; exact (hdep ⟨5, .data⟩ (by simp) rfl 101 _ rfl).1
                have q0 := hx.keep hd0
                have q1 := hx.keep hd1
                have q2 := hx.keep hd2
                have q3 := hx.keep hd3
                refine ⟨rfl, env dd.e, W, ?_, rfl, Ext.refl _⟩
                simp [ev101, q0, q1, q2, q3, execOp, go_sem]
              · refine softR_val 103 _ (by kernel_rfl) rfl rfl ?_
                intro a W hx hout hdep
                have ev102 : a.tmps[102]?.getD undef = env dd.e := by rw [← Array.getD_eq_getD_getElem?]; exact (hdep ⟨6, .data⟩ (by simp) rfl 102 _ rfl).1
                refine ⟨rfl, .slice (some ⟨W.heap.size, 0, none⟩) 1 1, _, ?_, ⟨_, rfl, heap_alloc_new W _⟩, (Ext.refl W).alloc _⟩
                simp [ev102, execOp, go_sem]
      case rest =>
        obtain ⟨hIz, hoz, hpxz, hGz, q2, q3, hres⟩ := hcut
        obtain ⟨_, _, hv0, _, hElz⟩ := OwnE.open hoz.out
        injection hv0 with hva _ hvc
        subst hva
        subst hvc
        have his := Lib.hid (is_any (M.r F) xv A6 l.length c6 l dd.e.c dd.e.k wc hIz.out hElz rfl (by omega))
        clear hkr hEl o46 hpx6 hpy6 u1 u2 u3 u4 u5 ol6 hI6 hG6 hbx6 hIk hcode0 hcode1 hcode3 o4lt ollt hIlt hW6 hElz
        rcases hres with ⟨ec, he1, he2, rfl, rfl⟩ | ⟨rfl, rfl, F', yv, l', A', c', rfl, hcl', hll', hla', hlw', hoy, hney, hJz, hF3, hpyz⟩
        · have hcode := Lib.hid (fun Z => code_any ec Z (by omega) (by omega))
          have hec : (ec == 0) = false := by simp; omega
          obtain ⟨a0, a1, a2, a3, a4, a5, a6, a7⟩ := Bx.row hpxz
          go_wp2_with fail
          refine (hcode.out _).mono ?_
          rintro e W9 ⟨rfl, rfl⟩
          go_wp2_with fail
          refine his.out.mono ?_
          rintro e W10 ⟨rfl, x10⟩
          have hpx10 : W10.heap[px]? = some (.cells #[.slice xv.A xv.n xv.c, .pointer xv.l, .pointer xv.r, Vi xv.h, Vi xv.m, Vi xv.s, Vq xv.lo, Vq xv.hi] 31 (0, 0)) := by rw [RowKit.Below.block x10 px (Array.getElem?_eq_some_iff.1 hpxz).1]; exact hpxz
          have hrel10 := Lib.hid (show PlRel Ix w0 w4 B px m (.slice A6 l.length c6) (.int .i64 ((i : Int) + 1)) W10 from ⟨i + 1, l, A6, c6, F, xv, by go_num, by omega, rfl, hc6, by omega, hla, hlw, Lib.hid (hoz.out.ext x10), hne6, Lib.hid (M.ext hIz.out x10), hFp, hpx10, hGz.ext x10⟩)
          clear a0 a1 a2 a3 a4 a5 a6 a7 hpx10 hpxz hIz hoz hGz hcode his
          go_wp2
          go_roundw
          case rel => exact hrel10.out
          case measure => simp [intOf]; omega
        · have hcode := Lib.hid (fun Z => code_zero Z)
          obtain ⟨a0, a1, a2, a3, a4, a5, a6, a7⟩ := Bx.row hpxz
          go_wp2_with fail
          refine (hcode.out _).mono ?_
          rintro e W9 ⟨rfl, rfl⟩
          go_wp2_with fail
          refine his.out.mono ?_
          rintro e W10 ⟨rfl, x10⟩
          clear a0 a1 a2 a3 a4 a5 a6 a7 hcode his
          have hpx10 : W10.heap[px]? = some (.cells #[.slice xv.A xv.n xv.c, .pointer xv.l, .pointer xv.r, Vi xv.h, Vi xv.m, Vi xv.s, Vq xv.lo, Vq xv.hi] 31 (0, 0)) := by rw [RowKit.Below.block x10 px (Array.getElem?_eq_some_iff.1 hpxz).1]; exact hpxz
          have hpy10 : W10.heap[py]? = some (.cells #[.slice yv.A yv.n yv.c, .pointer yv.l, .pointer yv.r, Vi yv.h, Vi yv.m, Vi yv.s, Vq yv.lo, Vq yv.hi] 31 (0, 0)) := by rw [RowKit.Below.block x10 py (Array.getElem?_eq_some_iff.1 hpyz).1]; exact hpyz
          have k0 := cell_of_row W10 px 0 _ _ _ hpx10
          have f0 := frozen_of_row W10 px 0 _ _ hpx10
          have k1 := cell_of_row W10 px 1 _ _ _ hpx10
          have f1 := frozen_of_row W10 px 1 _ _ hpx10
          have k2 := cell_of_row W10 px 2 _ _ _ hpx10
          have f2 := frozen_of_row W10 px 2 _ _ hpx10
          have k3 := cell_of_row W10 px 3 _ _ _ hpx10
          have f3 := frozen_of_row W10 px 3 _ _ hpx10
          have k4 := cell_of_row W10 px 4 _ _ _ hpx10
          have f4 := frozen_of_row W10 px 4 _ _ hpx10
          have k5 := cell_of_row W10 px 5 _ _ _ hpx10
          have f5 := frozen_of_row W10 px 5 _ _ hpx10
          have k6 := cell_of_row W10 px 6 _ _ _ hpx10
          have f6 := frozen_of_row W10 px 6 _ _ hpx10
          have k7 := cell_of_row W10 px 7 _ _ _ hpx10
          have f7 := frozen_of_row W10 px 7 _ _ hpx10
          obtain ⟨b0, b1, b2, b3, b4, b5, b6, b7⟩ := Bx.row hpy10
          obtain ⟨W11, hW11⟩ : ∃ Z, ((((((((W10.setCell ⟨px, 0, none⟩ (.slice yv.A yv.n yv.c)).setCell ⟨px, 1, none⟩ (.pointer yv.l)).setCell ⟨px, 2, none⟩ (.pointer yv.r)).setCell ⟨px, 3, none⟩ (Vi yv.h)).setCell ⟨px, 4, none⟩ (Vi yv.m)).setCell ⟨px, 5, none⟩ (Vi yv.s)).setCell ⟨px, 6, none⟩ (Vq yv.lo)).setCell ⟨px, 7, none⟩ (Vq yv.hi)) = Z := ⟨_, rfl⟩
          have hb11 : ∀ b, b ≠ px → W11.heap[b]? = W10.heap[b]? := fun b hb => by rw [← hW11]; exact st8_other hb (.slice yv.A yv.n yv.c) (.pointer yv.l) (.pointer yv.r) (Vi yv.h) (Vi yv.m) (Vi yv.s) (Vq yv.lo) (Vq yv.hi)
          have r11 : RX px W10 W11 := by rw [← hW11]; exact RX.st8 W10 px (.slice yv.A yv.n yv.c) (.pointer yv.l) (.pointer yv.r) (Vi yv.h) (Vi yv.m) (Vi yv.s) (Vq yv.lo) (Vq yv.hi)
          have hJ11 := M.frame (M.ext hJz.out x10) (fun b hb => hb11 b (fun e => hF3 (e ▸ hb)))
          have on11 := (hoy.out.ext x10).kept r11 hney
          have hpx11 : W11.heap[px]? = some (.cells #[.slice yv.A yv.n yv.c, .pointer yv.l, .pointer yv.r, Vi yv.h, Vi yv.m, Vi yv.s, Vq yv.lo, Vq yv.hi] 31 (0, 0)) := by rw [← hW11]; exact st8_row hpx10 (.slice yv.A yv.n yv.c) (.pointer yv.l) (.pointer yv.r) (Vi yv.h) (Vi yv.m) (Vi yv.s) (Vq yv.lo) (Vq yv.hi)
          have hG11 : GX B px px w4 W11 := by rw [← hW11]; exact GX.st8 (hGz.ext x10) (.slice yv.A yv.n yv.c) (.pointer yv.l) (.pointer yv.r) (Vi yv.h) (Vi yv.m) (Vi yv.s) (Vq yv.lo) (Vq yv.hi)
          have q2' := r11.cell (x10.keep q2) (by omega)
          have q3' := r11.cell (x10.keep q3) (by omega)
          obtain ⟨_, _, hv1, _, hEl11⟩ := OwnE.open on11
          injection hv1 with hv1a _ hv1c
          subst hv1a
          subst hv1c
          have his2 := Lib.hid (is_any (M.r F') yv A' l'.length c' l' dd.e.c dd.e.k W11 hJ11 hEl11 rfl (by omega))
          have p1 : i + 1 ≤ m := by omega
          have p4 : l'.length ≤ 100 + (i + 1) := by omega
          have hrel12 := Lib.hid (fun W12 (x12 : Ext W11 W12) => show PlRel Ix w0 w4 B px m (.slice A' l'.length c') (.int .i64 ((i : Int) + 1)) W12 from
            ⟨i + 1, l', A', c', F', yv, by go_num, p1, rfl, hcl', p4, hla', hlw', Lib.hid (on11.ext x12), hney, Lib.hid (M.ext hJ11 x12), hF3, by rw [RowKit.Below.block x12 px (Array.getElem?_eq_some_iff.1 hpx11).1]; exact hpx11, hG11.ext x12⟩)
          obtain ⟨z0, z1, z2, z3, z4, z5, z6, z7⟩ := Bx.row hpx11
          clear hEl11 hJ11 on11 hG11 hpx11 r11 hb11 hpy10 hpx10 q2 q3 hIz hoz hGz hoy hJz hpxz hpyz
          go_wp2_with fail
          refine his2.out.mono ?_
          rintro e W12 ⟨rfl, x12⟩
          clear z0 z1 z2 z3 z4 z5 z6 z7 b0 b1 b2 b3 b4 b5 b6 b7 q2' q3'
          have hrel := Lib.hid (hrel12.out _ x12)
          go_wp2
          go_roundw
          case rel => exact hrel.out
          case measure => simp [intOf]; omega
    · go_wp2
      go_ret
      exact ⟨rfl, hE⟩

end Go.Proofs.Ytanknhalgoheeaa
