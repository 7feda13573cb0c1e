/-
  Several texts of this seat in one file, each in the namespace again; no claim stands here.
-/
import Derived.BigRegion
import Derived.Deep.DeepCutAuto
import Derived.Lib.SliceRun
import Derived.Test.YtnocdfmmhnnbeaaXQ
import Derived.Test.YtnocdfmmhnnbeaaUOm
import Derived.Test.YtnocdfmmhnnbeaaLayIn
import Derived.Test.YtnocdfmmhnnbeaaXP
import Derived.Test.YtnocdfmmhnnbeaaXN
import Derived.Test.YtnocdfmmhnnbeaaXO
namespace Go.Proofs.Ytnocdfmmhnnbeaa
open Go.ChangeShapes Go.WideShapes Go.ChangeAt Go.RowKit Go.Sort Go.Shelf
set_option linter.unusedVariables false
set_option linter.unusedSimpArgs false
attribute [local go_sem] World.cell?_alloc_some

theorem Ext.growW (w : World) (q : Nat) (os : Array Obj) : Ext w (grow (w.drewN q) os) := Ext.regrown w (w.drawn + q) os
theorem Ext.sortedZ {α : Type} [Inhabited α] {enc : α → Value} {w0 w : World} {g n : Nat} {d : Array α} {os : Array Obj} (h : Ext w0 w) (hg : w0.heap.size ≤ g) : Ext w0 (sortWorld enc w g 0 n d os) := by
  refine Ext.trans (b := putRow enc (Sort.ahead w n) g 0 d) ?_ (Ext.growW _ 0 os)
  refine ⟨RowKit.Below.os (w' := w) h, RowKit.Below.tape (w' := w) h, RowKit.Below.output (w' := w) h, ?_, ?_⟩
  · exact Nat.le_trans h.size (by rw [size_putRow]; exact Nat.le_refl _)
  · intro k hk
    rw [← RowKit.Below.block (w' := w) h k hk]
    unfold putRow mapBlock
    show (w.heap.modify g _)[k]? = w.heap[k]?
    rw [Array.getElem?_modify, if_neg (by omega)]

/-- how a number of N lies in memory -/
def encF {N : Nat} (i : Fin N) : Value := Vi (i.val : Int)
def cfF {N : Nat} (ns : List Nd) (x y : Fin N) : Int := cmpId (idN ns y.val).1 (idN ns y.val).2 (idN ns x.val).1 (idN ns x.val).2
theorem cmpId_lt (a b c d : Int) : (cmpId a b c d < 0) ↔ ltI (a, b) (c, d) = true := by
  rw [ltI_iff]
  unfold cmpId cmpI
  by_cases h : a = c
  · subst h
    rw [if_pos rfl]
    split
    · simp; omega
    · split
      · simp; omega
      · simp; omega
  · rw [if_neg h]
    split
    · simp; omega
    · split
      · simp; omega
      · omega
theorem ltOf_cf {N : Nat} (ns : List Nd) (x y : Fin N) : ltOf (cfF ns) x y = ltI (idN ns y.val) (idN ns x.val) := by
  unfold ltOf cfF
  rw [Bool.eq_iff_iff, decide_eq_true_eq, cmpId_lt]
theorem swo_cf {N : Nat} (ns : List Nd) : SWO (ltOf (cfF (N := N) ns)) where
  irrefl x := by
    rw [ltOf_cf]
    cases h : ltI (idN ns x.val) (idN ns x.val) with
    | false => rfl
    | true => rw [ltI_iff] at h; omega
  trans x y z h1 h2 := by
    rw [ltOf_cf] at *
    exact ltI_trans h2 h1
  ntrans x y z h1 h2 := by
    rw [ltOf_cf] at *
    have n1 : ∀ a b : I2, ltI a b = false ↔ ¬ (a.1 < b.1 ∨ (a.1 = b.1 ∧ a.2 < b.2)) := fun a b => by rw [← ltI_iff, Bool.not_eq_true]
    rw [n1] at *
    omega

theorem holdsF {N : Nat} [Inhabited (Fin N)] {w : World} {base g cap : Nat} {r : List (Fin N)} (h : w.ownsRow base 3 1 (.slice (some ⟨g, 0, none⟩) r.length cap) r.length (r.map encF)) : Holds encF w g 0 r.toArray := by
  intro j hj
  have hj' : j < r.length := by simpa using hj
  have h1 := h.cellAt j (by omega)
  rw [Nat.zero_add]
  refine ⟨?_, h.frozenAt j⟩
  rw [h1, List.getElem?_map, List.getElem?_eq_getElem hj']
  rw [getElem!_pos r.toArray j (by simpa using hj)]
  rfl
theorem rowF {N : Nat} [Inhabited (Fin N)] {w : World} {g : Nat} {d : Array (Fin N)} (h : Holds encF w g 0 d) : ZS w (some ⟨g, 0, none⟩) (zs (d.toList.map Fin.val)) := fun h0 => by
  refine ⟨g, 0, rfl, fun j u hu => ?_⟩
  have hj := lt_of_get hu
  have hj' : j < d.size := by simpa [zs] using hj
  have h1 := (h j hj').1
  rw [h1, getElem!_pos d j hj']
  simpa [zs, encF, hj'] using hu

theorem sortF_any (g bx blk cap base : Nat) (l : List It) (ns : List Nd) (w0 w : World) (r : List (Fin (l.length + 1))) (hx : Ext w0 w) (hblk : w0.heap.size ≤ blk) (hlt : blk < w.heap.size) (b0 : w0.cell? ⟨bx, 0, none⟩ = some (.pointer (some ⟨g, 0, none⟩))) (h : GrT w0 g l ns)
    (ho : w.ownsRow base 3 1 (.slice (some ⟨blk, 0, none⟩) r.length cap) r.length (r.map encF)) (hb : r.length ≤ 17000000000000) :
    Calls Try.prog 36 #[.slice (some ⟨blk, 0, none⟩) r.length cap, .func (.func 37) #[] #[.pointer (some ⟨bx, 0, none⟩)]] w fun e w' =>
      e = .returned (.tuple #[]) ∧ ∃ r' : List (Fin (l.length + 1)), r'.Perm r ∧ r'.Pairwise (fun s t => ltI (idN ns s.val) (idN ns t.val) = false) ∧ ZS w' (some ⟨blk, 0, none⟩) (zs (r'.map Fin.val)) ∧ Ext w0 w' := by
  have eg : ∀ args w, (callFunc 37 args).run Try.prog w = .ok (.enter 37 args) w := enters_of Try.func37 (by kernel_rfl) rfl
  have hH := holdsF ho
  have hcmp : CmpLays1 Try.prog 37 #[.pointer (some ⟨bx, 0, none⟩)] (encF (N := l.length + 1)) (cfF (N := l.length + 1) ns) blk 0 r.toArray.size w := fun m os dk _ x y =>
    fallc_any g bx l ns x.val y.val _ ((hx.sortedZ hblk).keep b0) (h.ext (hx.sortedZ hblk)) (by have := x.isLt; omega) (by have := y.isLt; omega)
  have hcon := Any.slices_SortFunc Try.sortIn encF (fun _ => rfl) (cfF ns) (swo_cf ns) 37 #[.pointer (some ⟨bx, 0, none⟩)] blk 0 cap r.toArray w eg hcmp hH hlt (by simp; omega)
  refine Calls.mono hcon ?_
  rintro e w' ⟨he, d', n, os, hp, hs, hw⟩
  subst hw
  have hsz : d'.size = r.length := by have := hp.1; simpa using this
  refine ⟨he, d'.toList, ?_, ?_, ?_, hx.sortedZ hblk⟩
  · have := hp.2.2
    have e : List.take d'.size r = r := List.take_of_length_le (by omega)
    simpa [← hsz, e] using this
  · rw [List.pairwise_iff_getElem]
    intro i j hi hj hij
    have := hs i j (Nat.zero_le _) hij (by simpa [← hsz] using hj)
    rw [ltOf_cf, getElem!_pos d' j (by simpa using hj), getElem!_pos d' i (by simpa using hi)] at this
    simpa using this
  · exact rowF (holds_sortWorld encF w blk 0 n r.toArray d' os hlt hH (by simpa using hsz))

/-- the first numbers -/
def numsN (n : Nat) : List Nat := (List.range n).map (· + 1)
theorem numsN_succ (n : Nat) : numsN (n + 1) = numsN n ++ [n + 1] := by unfold numsN; rw [List.range_succ, List.map_append]; rfl
theorem numsN_len (n : Nat) : (numsN n).length = n := by simp [numsN]
theorem zs_app (a b : List Nat) : zs (a ++ b) = zs a ++ zs b := by simp [zs]
theorem zs_len (a : List Nat) : (zs a).length = a.length := by simp [zs]
def rF (n : Nat) : List (Fin (n + 1)) := (List.range n).map fun i => Fin.ofNat (n + 1) (i + 1)
theorem rF_val (n : Nat) : (rF n).map Fin.val = numsN n := by
  unfold rF numsN
  rw [List.map_map]
  refine List.map_congr_left (fun i hi => ?_)
  have := List.mem_range.1 hi
  simp only [Function.comp_apply, Fin.ofNat]
  exact Nat.mod_eq_of_lt (by omega)
theorem rF_row (n : Nat) : (rF n).map encF = (zs (numsN n)).map Vi := by
  rw [← rF_val]
  unfold zs encF
  rw [List.map_map, List.map_map]
  rfl
theorem rF_len (n : Nat) : (rF n).length = n := by simp [rF]
theorem fall_of {l : List It} {ns : List Nd} (h : GrN l ns) (hk : knownI l = true) {r' : List (Fin (l.length + 1))} (hp : r'.Perm (rF l.length)) (hs : r'.Pairwise fun s t => ltI (idN ns s.val) (idN ns t.val) = false) : FallN l ns (r'.map Fin.val) := by
  have hmem : ∀ n, n ∈ r'.map Fin.val ↔ 0 < n ∧ n ≤ l.length := fun n => by
    rw [(hp.map Fin.val).mem_iff, rF_val]
    unfold numsN
    rw [List.mem_map]
    constructor
    · rintro ⟨i, hi, rfl⟩
      have := List.mem_range.1 hi
      omega
    · rintro ⟨h0, h1⟩
      exact ⟨n - 1, List.mem_range.2 (by omega), by omega⟩
  have hnd : (r'.map Fin.val).Nodup := by
    rw [(hp.map Fin.val).nodup_iff, rF_val]
    unfold numsN
    rw [List.nodup_iff_pairwise_ne, List.pairwise_map]
    exact List.nodup_range.imp (fun h e => h (by omega))
  refine ⟨hmem, ?_⟩
  have h2 : (r'.map Fin.val).Pairwise fun a b => ltI (idN ns a) (idN ns b) = false := by rw [List.pairwise_map]; exact hs
  have h3 := List.Pairwise.and hnd h2
  refine List.Pairwise.imp_of_mem ?_ h3
  intro a b ha hb hab
  obtain ⟨a0, a1⟩ := (hmem a).1 ha
  obtain ⟨b0, b1⟩ := (hmem b).1 hb
  rcases ltI_total (a := idN ns a) (b := idN ns b) (fun e => hab.1 (h.id_inj hk a0 a1 b0 b1 e)) with e | e
  · rw [hab.2] at e; cases e
  · exact e

set_option maxRecDepth 100000 in
set_option maxHeartbeats 16000000 in
theorem falling_any (g : Nat) (l : List It) (ns : List Nd) (w : World) (h : GrT w g l ns) (hb : l.length ≤ 5026338869800) :
    Calls Try.prog 35 #[.pointer (some ⟨g, 0, none⟩)] w fun e w' => ∃ q c L, e = .returned (.slice (some ⟨q, 0, none⟩) l.length c) ∧ w.heap.size ≤ q ∧ L.length = l.length ∧ FallN l ns L ∧ ZS w' (some ⟨q, 0, none⟩) (zs L) ∧ Ext w w' := by
  have hok := Lib.hid h.ok
  have hkn := Lib.hid h.kn
  obtain ⟨n, hn⟩ : ∃ n, l.length = n := ⟨_, rfl⟩
  have x0 := (Ext.refl w).alloc (.cells #[.pointer (some ⟨g, 0, none⟩)] 46)
  have bx0 : (w.alloc (.cells #[.pointer (some ⟨g, 0, none⟩)] 46)).cell? ⟨w.heap.size, 0, none⟩ = some (.pointer (some ⟨g, 0, none⟩)) := by simp [go_sem]
  obtain ⟨b, o, cap, g0, hcap, hN⟩ := h.cells
  replace g0 := x0.keep g0
  have hG := Lib.hid (h.ext x0)
  rw [hn] at g0
  clear hN hcap h
  have hmk := fun W => make_ints (n : Int) n rfl (by omega) W
  have hnb : n ≤ 5026338869800 := by omega
  have hs1 := Lib.hid (show (w.alloc (.cells #[.pointer (some ⟨g, 0, none⟩)] 46)).heap.size = w.heap.size + 1 by simp)
  have hsub : wrap64 (n : Int) = (n : Int) := w64_in (by omega) (by omega)
  have g0' : (w.alloc (.cells #[.pointer (some ⟨g, 0, none⟩)] 46)).cell? ⟨g, 0, none⟩ = some (.slice (some ⟨b, o, none⟩) (n + 1) cap) := g0
  replace x0 := Lib.hid x0
  clear g0
  replace hn := Lib.hid hn
  go_enter Try.func35, Try.ntmps35
  go_wp2_with fail
  generalize w.alloc (.cells #[.pointer (some ⟨g, 0, none⟩)] 46) = w1 at *
  generalize w.heap.size = bx at *
  have o0 := Lib.hid (OwnZ.made w1 w1 n (Nat.le_refl _) (by omega))
  have x1 := Lib.hid ((Ext.refl w1).alloc (.cells (madeCells #[.int .i64 0] n) 3))
  have v0 : Hid (∃ q, (Value.slice (some ⟨w1.heap.size, 0, none⟩) 0 n).ownBlock = some q) := Lib.hid ⟨_, rfl⟩
  rw [hs1.out] at o0 v0
  generalize w1.alloc (.cells (madeCells #[.int .i64 0] n) 3) = w2 at *
  go_wp2
  go_loopw [3, 4] (fun v i W => ∃ (j : Nat), j ≤ n ∧ i = Vi ((j : Int) + 1) ∧ Hid (OwnZ w1 W v (zs (numsN j))) ∧ Hid (∃ q, v.ownBlock = some q) ∧ Hid (Ext w1 W)) (fun _ i _ => n + 1 - (intOf i).toNat)
  case atStart => exact ⟨0, Nat.zero_le _, rfl, o0, v0, x1⟩
  case round =>
    clear o0 x1 v0
    obtain ⟨j, hj, rfl, ho, hv, hx⟩ := hrel
    have q0 := hx.out.keep bx0
    have q1 := hx.out.keep g0'
    by_cases hlt : j < n
    · have hlt1 : (j : Int) + 1 < (n : Int) + 1 := by omega
      have hw1 : wrap64 ((j : Int) + 1 + 1) = (j : Int) + 1 + 1 := w64_in (by omega) (by omega)
      have hlen := Lib.hid (show (zs (numsN j)).length = j by rw [zs_len, numsN_len])
      have hsn := Lib.hid (show zs (numsN (j + 1)) = zs (numsN j) ++ [(j : Int) + 1] by rw [numsN_succ, zs_app]; rfl)
      obtain ⟨A, c, rfl, hc, hr⟩ := ho.out.open
      replace hc := Lib.hid hc
      rw [hlen.out] at ho hv ⊢
      clear hr hok hkn
      go_wp2_with (at_builtin; go_loud (refine wpList_append_Z (w0 := w1) rfl (.tmp 21) (.tmp 23) rfl _ (zs (numsN j)) rfl (ho.out.ext ((Ext.refl _).alloc _)) (hx.out.alloc _).size _ 1 1 [(j : Int) + 1] rfl rfl (ZS.new _ _) (by rw [hlen.out]; simp only [List.length_cons, List.length_nil]; omega) ?_; intro v3 w3 o3 g3 b3))
      have x3 := Lib.hid ((hx.out.alloc (.cells #[.int .i64 ((j : Int) + 1)] 3)).grown g3 (fun k hk => (ho.out.lt k hk).1))
      have o3' := Lib.hid (show OwnZ w1 w3 v3 (zs (numsN (j + 1))) by rw [hsn.out]; exact o3)
      have v3' : Hid (∃ q, v3.ownBlock = some q) := Lib.hid (by
        rcases b3 with e | e
        · rw [e]; exact hv.out
        · exact ⟨_, e⟩)
      clear o3 g3 b3 ho hv
      go_wp2
      go_roundw
      case rel => exact ⟨j + 1, by omega, by go_num, o3', v3', x3⟩
      case measure => simp [intOf]; omega
    · have hjn : j = n := by omega
      subst hjn
      obtain ⟨q, hq⟩ := hv.out
      have hnj := hn.out
      have hrow : ∃ cap', u3 = Value.slice (some ⟨q, 0, none⟩) (rF l.length).length cap' ∧ wr.ownsRow w1.heap.size 3 1 (.slice (some ⟨q, 0, none⟩) (rF l.length).length cap') (rF l.length).length ((rF l.length).map encF) := by
        have ho' := ho.out
        unfold OwnZ OwnG at ho'
        rcases ho'.2 with ⟨rfl, _⟩ | ⟨gq, cq, cur, rfl, _⟩
        · cases hq
        · injection hq with hq
          subst hq
          rw [zs_len, numsN_len] at ho'
          rw [rF_row, rF_len, hnj]
          refine ⟨cq, ?_, ho'⟩
          rw [zs_len, numsN_len]
      obtain ⟨cap', rfl, hrow⟩ := hrow
      have hqlt := (ho.out.lt q hq)
      have hqw := Lib.hid (Nat.le_trans x0.out.size hqlt.1)
      have hsort := Lib.hid ((sortF_any g bx q cap' w1.heap.size l ns w1 wr (rF l.length) hx.out hqlt.1 hqlt.2 bx0 hG.out hrow (by rw [rF_len]; omega)).mono fun e w' (hh : _ ∧ _) => (⟨hh.1, hh.2.elim fun r' h' => ⟨r'.map Fin.val, by rw [List.length_map, h'.1.length_eq, rF_len], fall_of hok.out hkn.out h'.1 h'.2.1, h'.2.2⟩⟩ : e = .returned (.tuple #[]) ∧ ∃ L : List Nat, L.length = l.length ∧ FallN l ns L ∧ ZS w' (some ⟨q, 0, none⟩) (zs L) ∧ Ext w1 w'))
      rw [rF_len, hnj] at hsort
      rw [rF_len, hnj]
      clear hrow hqlt ho hv hq
      go_wp2_with fail
      refine hsort.out.mono ?_
      rintro e w4 ⟨rfl, L, hl2, hL, hz, x4⟩
      have xf := Lib.hid (x0.out.trans x4)
      replace hz := Lib.hid hz
      replace hl2 := Lib.hid hl2
      clear x4 hsort
      go_wp2
      go_ret
      exact ⟨q, cap', L, by rw [hn.out]; rfl, hqw.out, by rw [hl2.out, hn.out], hL, hz.out, xf.out⟩

end Go.Proofs.Ytnocdfmmhnnbeaa

namespace Go.Proofs.Ytnocdfmmhnnbeaa
open Go.ChangeShapes Go.WideShapes Go.ChangeAt Go.RowKit Go.Sort
set_option linter.unusedVariables false
set_option linter.unusedSimpArgs false
attribute [local go_sem] World.cell?_alloc_some

structure SdV (w0 W : World) (bl br N : Nat) (K : Bool → Nat → List Int) (V : Bool → Nat → Value) : Prop where
  row : ∀ s, W.heap[cond s br bl]? = some (.cells ((List.range N).map (V s)).toArray 40 (0, 0))
  ne : bl ≠ br
  own : ∀ s k, k < N → OwnZ w0 W (V s k) (K s k)
  far : ∀ s k, k < N → ∀ t, (V s k).ownBlock ≠ some (cond t br bl)
  apart : ∀ s k s' k', k < N → k' < N → (s' ≠ s ∨ k' ≠ k) → (V s' k').ownBlock = none ∨ (V s' k').ownBlock ≠ (V s k).ownBlock
theorem SdV.ext {w0 W W' : World} {bl br N : Nat} {K : Bool → Nat → List Int} {V : Bool → Nat → Value} (h : SdV w0 W bl br N K V) (hx : Ext W W') : SdV w0 W' bl br N K V :=
  ⟨fun s => (RowKit.Below.block hx _ (Array.getElem?_eq_some_iff.1 (h.row s)).1).trans (h.row s), h.ne, fun s k hk => (h.own s k hk).ext hx, h.far, h.apart⟩
theorem SdV.cell {w0 W : World} {bl br N : Nat} {K : Bool → Nat → List Int} {V : Bool → Nat → Value} (h : SdV w0 W bl br N K V) (s : Bool) {k : Nat} (hk : k < N) : W.cell? ⟨cond s br bl, k, none⟩ = some (V s k) := by
  rw [cell_of_row W _ k _ _ (0, 0) (h.row s)]
  simp [hk]
theorem SdV.thaw {w0 W : World} {bl br N : Nat} {K : Bool → Nat → List Int} {V : Bool → Nat → Value} (h : SdV w0 W bl br N K V) (s : Bool) (k : Nat) : W.frozen? ⟨cond s br bl, k, none⟩ = false := frozen_of_row W _ k _ _ (h.row s)
/-- a row of slices, set at one place -/
theorem range_set (N k : Nat) (f : Nat → Value) (v : Value) (hk : k < N) : ((List.range N).map f).toArray.setIfInBounds k v = ((List.range N).map fun j => if j = k then v else f j).toArray := by
  rw [List.setIfInBounds_toArray]
  congr 1
  apply List.ext_getElem?
  intro j
  rw [List.getElem?_set, List.getElem?_map, List.getElem?_map, List.length_map, List.length_range]
  by_cases hj : k = j
  · subst hj
    rw [if_pos rfl, if_pos hk, List.getElem?_range hk]
    simp
  · rw [if_neg hj]
    rcases Nat.lt_or_ge j N with h | h
    · rw [List.getElem?_range h]
      simp [Ne.symm hj]
    · rw [List.getElem?_eq_none (by simpa using h)]; rfl
/-- one more, at one place -/
def putK (K : Bool → Nat → List Int) (s : Bool) (k : Nat) (m : Int) : Bool → Nat → List Int := fun s' k' => if s' = s ∧ k' = k then K s k ++ [m] else K s' k'
def putV (V : Bool → Nat → Value) (s : Bool) (k : Nat) (v : Value) : Bool → Nat → Value := fun s' k' => if s' = s ∧ k' = k then v else V s' k'
theorem SdV.put {w0 W W1 : World} {bl br N : Nat} {K : Bool → Nat → List Int} {V : Bool → Nat → Value} (h : SdV w0 W bl br N K V) (s : Bool) {k : Nat} (hk : k < N) (m : Int) {v : Value}
    (ho : OwnZ w0 W1 v (K s k ++ [m])) (hg : W.grownBy W1 (V s k).ownBlock) (hb : v.ownBlock = (V s k).ownBlock ∨ ∃ q, v.ownBlock = some q ∧ W.heap.size ≤ q) :
    SdV w0 (W1.setCell ⟨cond s br bl, k, none⟩ v) bl br N (putK K s k m) (putV V s k v) := by
  have hlt : ∀ t, cond t br bl < W.heap.size := fun t => (Array.getElem?_eq_some_iff.1 (h.row t)).1
  have r1 : ∀ t, W1.heap[cond t br bl]? = some (.cells ((List.range N).map (V t)).toArray 40 (0, 0)) := fun t => (hg.block _ (hlt t) (fun e => h.far s k hk t e.symm)).trans (h.row t)
  have hr : RX (cond s br bl) W1 (W1.setCell ⟨cond s br bl, k, none⟩ v) := RX.set (RX.refl _ _) k v (.inr rfl)
  have hvf : ∀ t, v.ownBlock ≠ some (cond t br bl) := fun t e => by
    rcases hb with hb | ⟨q, hb, hq⟩
    · rw [hb] at e; exact h.far s k hk t e
    · rw [hb] at e
      injection e with e
      have := hlt t
      omega
  have old : ∀ s' k', k' < N → (s' ≠ s ∨ k' ≠ k) → OwnZ w0 W1 (V s' k') (K s' k') := fun s' k' hk' hne => (h.own s' k' hk').kept hg (h.apart s k s' k' hk hk' hne)
  have key : ∀ s' k', (s' = s ∧ k' = k) ∨ (s' ≠ s ∨ k' ≠ k) := fun s' k' => by
    by_cases e1 : s' = s
    · by_cases e2 : k' = k
      · exact .inl ⟨e1, e2⟩
      · exact .inr (.inr e2)
    · exact .inr (.inl e1)
  have ne' : ∀ {s' k'}, (s' ≠ s ∨ k' ≠ k) → ¬ (s' = s ∧ k' = k) := fun h e => h.elim (fun h => h e.1) (fun h => h e.2)
  refine ⟨fun t => ?_, h.ne, fun s' k' hk' => ?_, fun s' k' hk' t => ?_, fun a j a' j' hj hj' hne => ?_⟩
  · by_cases e : t = s
    · subst e
      rw [heap_setCell_same _ _ k _ _ _ (r1 t), range_set N k _ v hk]
      refine congrArg (fun f => some (Obj.cells ((List.range N).map f).toArray 40 (0, 0))) (funext fun j => ?_)
      unfold putV
      by_cases ej : j = k <;> simp [ej]
    · rw [heap_setCell_other _ _ _ _ (fun e2 => by
        have hn := h.ne
        simp only at e2
        cases t <;> cases s <;> simp_all), r1 t]
      refine congrArg (fun f => some (Obj.cells ((List.range N).map f).toArray 40 (0, 0))) (funext fun j => ?_)
      unfold putV
      simp [e]
  · unfold putV putK
    rcases key s' k' with e | e
    · rw [if_pos e, if_pos e]
      exact ho.kept hr (.inr (hvf s))
    · rw [if_neg (ne' e), if_neg (ne' e)]
      exact (old s' k' hk' e).kept hr (.inr (h.far s' k' hk' s))
  · unfold putV
    rcases key s' k' with e | e
    · rw [if_pos e]; exact hvf t
    · rw [if_neg (ne' e)]; exact h.far s' k' hk' t
  · unfold putV
    have hold : ∀ {s' k'}, k' < N → ∀ q, (V s' k').ownBlock = some q → q < W.heap.size := fun hk' q hq => ((h.own _ _ hk').lt q hq).2
    rcases key a j with e | e
    · rcases key a' j' with e' | e'
      · obtain ⟨rfl, rfl⟩ := e
        obtain ⟨rfl, rfl⟩ := e'
        rcases hne with hne | hne <;> exact absurd rfl hne
      · rw [if_pos e, if_neg (ne' e')]
        rcases hb with hb | ⟨q, hb, hq⟩
        · rw [hb]; exact h.apart s k a' j' hk hj' e'
        · rw [hb]
          cases hv : (V a' j').ownBlock with
          | none => exact .inl rfl
          | some p => exact .inr (fun e2 => by injection e2 with e2; have := hold hj' p hv; omega)
    · rcases key a' j' with e' | e'
      · rw [if_neg (ne' e), if_pos e']
        rcases hb with hb | ⟨q, hb, hq⟩
        · rw [hb]
          obtain ⟨rfl, rfl⟩ := e'
          exact h.apart a j a' j' hj hk (e.elim (fun h => .inl (fun h2 => h h2.symm)) (fun h => .inr (fun h2 => h h2.symm)))
        · rw [hb]
          refine .inr (fun e2 => ?_)
          have := hold hj q e2.symm
          omega
      · rw [if_neg (ne' e), if_neg (ne' e')]
        exact h.apart a j a' j' hj hj' hne

theorem infoS2 : (Try.prog.info? 40).map (fun i => (i.zero, i.size, i.bytes)) = some (some (.slice none 0 0), 1, 24) := by kernel_rfl
theorem make_rows (c : Int) (n : Nat) (hc : c = n) (hn : n ≤ 11000000000000) (W : World) : (Instr.makeSlice 63 (.int .i64 c) (.int .i64 c)).run Try.prog W = .ok (.slice (some ⟨W.heap.size, 0, none⟩) n n) (W.alloc (.cells (madeCells #[.slice none 0 0] n) 40)) := by
  subst hc
  obtain ⟨i, hi, hz0, hz1, hz2⟩ := info_parts infoS2
  have hr := run_make (P := Try.prog) W 63 40 i _ Try.underlying63 hi hz0 .i64 .i64 (n : Int) (n : Int) (by omega) (by omega) (by rw [hz2]; omega) (by omega)
  rw [hz1, Nat.mul_one] at hr
  exact hr
theorem rows_made (n : Nat) : (madeCells #[.slice none 0 0] n) = ((List.range n).map fun _ => Value.slice none 0 0).toArray := by
  apply Array.toList_inj.1
  rw [toList_madeCells_one]
  apply List.ext_getElem
  · simp
  · intro i h1 h2
    simp
theorem SdV.made {w0 W : World} {bl br n : Nat} (h1 : W.heap[bl]? = some (.cells (madeCells #[.slice none 0 0] n) 40 (0, 0))) (h2 : W.heap[br]? = some (.cells (madeCells #[.slice none 0 0] n) 40 (0, 0))) (hne : bl ≠ br) :
    SdV w0 W bl br n (fun _ _ => []) (fun _ _ => .slice none 0 0) := by
  rw [rows_made] at h1 h2
  exact ⟨fun s => by cases s <;> assumption, hne, fun _ _ _ => OwnZ.nil _ _, fun _ _ _ t => by simp [Value.ownBlock], fun _ _ _ _ _ _ _ => .inl rfl⟩

end Go.Proofs.Ytnocdfmmhnnbeaa

namespace Go.Proofs.Ytnocdfmmhnnbeaa
open Go.ChangeShapes Go.WideShapes Go.ChangeAt Go.RowKit Go.Sort
set_option linter.unusedVariables false
set_option linter.unusedSimpArgs false

def SoftMonoX (Rel : World → World → Prop) (k0 : Nat) (tab : SoftTab) : Prop :=
  (∀ (k d : Nat) (R : Told), tab[k]? = some (d, R) → ∀ (v : Value) (W W' : World), R v W → Ext W W' → R v W') ∧
  (∀ (k d : Nat) (R : Told), tab[k]? = some (d, R) → k ≠ k0 → ∀ (v : Value) (W W' : World), R v W → Rel W W' → R v W')

theorem wpAny_softX {Rel : World → World → Prop} {k0 : Nat} {Pre Post : World → Prop} {P : Program} {ops : Array Oper} {n : Nat} {tab : SoftTab} {Q : Exit → Act → World → Prop} {a0 : Act} {w : World} {rest : List Oper}
    (htrans : ∀ a b c, Rel a b → Rel b c → Rel a c)
    (hlen : tab.length = n) (hnd : (tab.map (·.1)).Nodup) (hsz : ∀ d ∈ tab.map (·.1), d < a0.tmps.size)
    (hn : n < ops.size) (hs : Region.sinkB .any ops n = true) (hc : Region.chainB .any ops n = true)
    (hback : ∀ (k : Nat) (o : Oper), k < n → ops[k]? = some o → ∀ e ∈ o.after.toList, Region.binds .any e = true → e.on < k)
    (hmono : SoftMonoX Rel k0 tab)
    (hsub : ∀ a b, Ext a b → Rel a b) (hpre : ∀ a b, Ext a b → Pre a → Pre b) (hpost : ∀ a b, Ext a b → Post a → Post b) (hk0 : k0 < n)
    (hstep : ∀ (k : Nat) (o : Oper), k < n → k ≠ k0 → ops[k]? = some o → SoftStepP Rel P ops tab Q a0 w k o) (hcall : ∀ o, ops[k0]? = some o → SoftStepC Rel Pre Post P ops tab Q a0 w k0 o)
    (hrest : ∀ j, rest[j]? = ops[n + j]?) (hrl : rest.length = ops.size - n) (hseq : Region.seqB .any ops rest.length n (doneTo n ops.size) = true)
    (hend : ∀ a W, SoftAtP Rel k0 Pre Post tab a0 a w W (doneTo n ops.size) → wpList P ops Q rest a W) :
    ∀ (f : Nat) (listed : Array Bool) (a : Act) (W : World), HeadInv .any ops n listed → (listed.toList.take n).count false = f → SoftAtP Rel k0 Pre Post tab a0 a w W listed → wpAny P .any ops Q (f + rest.length) listed a W := by
  intro f
  induction f with
  | zero =>
    intro listed a W inv hcnt hI
    have e : listed = doneTo n ops.size := by
      apply Array.ext
      · rw [inv.size]; simp [doneTo]; omega
      · intro i h1 h2
        rcases Nat.lt_or_ge i n with h | h
        · have hm : listed[i] ∈ listed.toList.take n := by
            rw [List.mem_take_iff_getElem]
            exact ⟨i, by simp; omega, by simp⟩
          have hne : listed[i] ≠ false := fun e => by
            rw [e] at hm
            have := List.count_pos_iff.2 hm
            omega
          have : listed[i] = true := by simpa using hne
          rw [this]
          simp [doneTo, h]
        · have := inv.tail i h (by rw [← inv.size]; exact h1)
          have h3 : listed[i] = false := by simpa [Array.getD, h1] using this
          rw [h3]
          simp [doneTo, List.getElem_append, Nat.not_lt.2 h]
    subst e
    rw [Nat.zero_add]
    exact wpAny_of_seq (md := .any) rest n _ a W hrest hseq (hend a W hI)
  | succ f ih =>
    intro listed a W inv hcnt hI
    have hex : ∃ i, i < n ∧ listed.getD i true = false := by
      have hm : false ∈ listed.toList.take n := List.count_pos_iff.1 (by omega)
      rw [List.mem_take_iff_getElem] at hm
      obtain ⟨i, h1, h2⟩ := hm
      have h1' : i < n ∧ i < listed.size := by simp at h1; omega
      refine ⟨i, h1'.1, ?_⟩
      simp [Array.getD, h1'.2]
      simpa using h2
    obtain ⟨i0, hi0, hun0⟩ := hex
    rw [show f + 1 + rest.length = (f + rest.length) + 1 by omega]
    refine ⟨fun hr => ?_, fun i hi => ?_⟩
    · exfalso
      have key : ∀ k, k < n → listed.getD k false = true := by
        intro k
        induction k using Nat.strongRecOn with
        | ind k ihk =>
          intro hk
          rcases hb : listed.getD k false with _ | _
          · exfalso
            have hk' : k < listed.size := by rw [inv.size]; omega
            have hk2 : k < ops.size := by omega
            have hm : k ∈ Region.ready .any ops listed := by
              rw [mem_ready]
              refine ⟨getD_in hk' hb, ops[k], by simp [hk2], fun e he hb' => ?_⟩
              have hlt := hback k ops[k] hk (by simp [hk2]) e (by simpa using he) hb'
              exact ihk e.on hlt (by omega)
            rw [hr] at hm
            cases hm
          · rfl
      have h9 := key i0 hi0
      rw [getD_both hun0] at h9
      cases h9
    · have hin : i < n := by
        rcases Nat.lt_or_ge i n with h | h
        · exact h
        · exact absurd hi (tail_waits hs hc hn inv _ i0 rfl hi0 hun0 i h)
      obtain ⟨h1, o, ho, hdep⟩ := mem_ready.1 hi
      obtain ⟨⟨d, R⟩, htab⟩ : ∃ p, tab[i]? = some p := ⟨tab[i], List.getElem?_eq_getElem (by omega)⟩
      have hdsz : d < a.tmps.size := by rw [hI.size]; exact hsz d (List.mem_map.2 ⟨(d, R), List.mem_of_getElem? htab, rfl⟩)
      have hdeps : ∀ e ∈ o.after.toList, Region.binds .any e = true → ∀ (d' : Nat) (R' : Told), tab[e.on]? = some (d', R') → R' (a.tmps.getD d' undef) W ∧ d' < a.tmps.size := fun e he hb d' R' ht' =>
        ⟨hI.told e.on d' R' ht' (hdep e (by simpa using he) hb), by rw [hI.size]; exact hsz d' (List.mem_map.2 ⟨(d', R'), List.mem_of_getElem? ht', rfl⟩)⟩
      have hst : wpOp P ops Q i (fun a' W' => ∃ v, a' = a.put (some d) v ∧ R v W' ∧ Rel W W' ∧ ((listed.setIfInBounds i true).getD k0 false = true → Post W') ∧ ((listed.setIfInBounds i true).getD k0 false = false → Pre W') ∧ (i ≠ k0 → Ext W W')) a W := by
        by_cases hik : i = k0
        · subst hik
          have hf : listed.getD i false = false := getD_both h1
          refine wpOp_mono (fun a' W' hh => ?_) (hcall o ho a W hI.rel (hI.phase.2 hf) (fun t ht => by simp only [Array.getD_eq_getD_getElem?, hI.out t ht]) hdeps d R htab)
          obtain ⟨v, e1, e2, e3, e4⟩ := hh
          have hil' : i < listed.size := by rw [inv.size]; omega
          exact ⟨v, e1, e2, e3, fun _ => e4, fun hh => by simp [hil'] at hh, fun hh => absurd rfl hh⟩
        · refine wpOp_mono (fun a' W' hh => ?_) (hstep i o hin hik ho a W hI.rel (fun t ht => by simp only [Array.getD_eq_getD_getElem?, hI.out t ht]) hdeps d R htab)
          obtain ⟨v, e1, e2, e3⟩ := hh
          refine ⟨v, e1, e2, hsub _ _ e3, fun hh => hpost _ _ e3 (hI.phase.1 ?_), fun hh => hpre _ _ e3 (hI.phase.2 ?_), fun _ => e3⟩
          · rw [getD_set_ne false hik] at hh; exact hh
          · rw [getD_set_ne false hik] at hh; exact hh
      refine wpOp_mono (fun a' W' hh => ?_) hst
      obtain ⟨v, rfl, hR, hx, hph1, hph2, hxe⟩ := hh
      have hil' : i < listed.size := by rw [inv.size]; omega
      refine ih _ _ _ (inv.set hi hin) ?_ ⟨htrans _ _ _ hI.rel hx, ⟨hph1, hph2⟩, hI.defers, by simp only [Act.put, Array.size_setIfInBounds]; exact hI.size, ?_, ?_⟩
      · have e : (listed.toList.take n)[i]? = some false := by
          have h3 : listed[i] = false := by simpa [Array.getD, hil'] using h1
          rw [List.getElem?_take, if_pos hin]
          simp [hil', h3]
        have := count_set (listed.toList.take n) i e
        rw [Array.toList_setIfInBounds, List.take_set]
        omega
      · intro t ht
        have hne : d ≠ t := fun e => ht (e ▸ List.mem_map.2 ⟨(d, R), List.mem_of_getElem? htab, rfl⟩)
        simp only [Act.put]
        rw [Array.getElem?_setIfInBounds_ne hne]
        exact hI.out t ht
      · intro k d2 R2 ht2 hl2
        simp only [Act.put]
        by_cases hki : k = i
        · subst hki
          obtain ⟨rfl, rfl⟩ : d = d2 ∧ R = R2 := by rw [htab] at ht2; injection ht2 with e; injection e with e1 e2; exact ⟨e1, e2⟩
          simp [hdsz]
          exact hR
        · have hne : d ≠ d2 := tab_ne hnd htab ht2 (fun e => hki e.symm)
          have h3 : listed.getD k false = true := by rw [getD_set_ne false (fun e => hki e.symm)] at hl2; exact hl2
          have : R2 (a.tmps.getD d2 undef) W' := by
            by_cases hik : i = k0
            · exact hmono.2 k d2 R2 ht2 (fun e => hki (e.trans hik.symm)) _ _ _ (hI.told k d2 R2 ht2 h3) hx
            · exact hmono.1 k d2 R2 ht2 _ _ _ (hI.told k d2 R2 ht2 h3) (hxe hik)
          simp only [Array.getD_eq_getD_getElem?, Array.getElem?_setIfInBounds_ne hne]
          simp only [Array.getD_eq_getD_getElem?] at this
          exact this

/-- each operation of the head in its turn; the one that is k0 is asked otherwise -/
def SoftAllX (Rel : World → World → Prop) (k0 : Nat) (Pre Post : World → Prop) (P : Program) (ops : Array Oper) (tab : SoftTab) (Q : Exit → Act → World → Prop) (a0 : Act) (w : World) : List Oper → Nat → Prop
  | [], _ => True
  | o :: r, k => (if k = k0 then SoftStepC Rel Pre Post P ops tab Q a0 w k o else SoftStepP Rel P ops tab Q a0 w k o) ∧ SoftAllX Rel k0 Pre Post P ops tab Q a0 w r (k + 1)
theorem softAllX_spec {Rel : World → World → Prop} {k0 : Nat} {Pre Post : World → Prop} {P : Program} {ops : Array Oper} {tab : SoftTab} {Q : Exit → Act → World → Prop} {a0 : Act} {w : World} : ∀ (l : List Oper) (k : Nat), SoftAllX Rel k0 Pre Post P ops tab Q a0 w l k → ∀ (j : Nat) (o : Oper), l[j]? = some o →
    if k + j = k0 then SoftStepC Rel Pre Post P ops tab Q a0 w (k + j) o else SoftStepP Rel P ops tab Q a0 w (k + j) o
  | [], _, _, j, o, h => by simp at h
  | x :: l, k, h, 0, o, ho => by
    obtain rfl : x = o := by simpa using ho
    exact h.1
  | x :: l, k, h, j + 1, o, ho => by
    have := softAllX_spec l (k + 1) h.2 j o (by simpa using ho)
    rwa [Nat.add_assoc, Nat.add_comm 1 j] at this
/-- the region: a head of n operations by what its slots are told to hold, and the tail -/
theorem wp_soft_tailX (Rel : World → World → Prop) (k0 : Nat) (Pre Post : World → Prop) {P : Program} {l : List Oper} (n : Nat) (tab : SoftTab) {Q : Exit → Act → World → Prop} {a : Act} {w : World} {id : Nat} (hm : P.follows .mixedOrders = true)
    (hform : softForm n l = true) (htrans : ∀ a b c, Rel a b → Rel b c → Rel a c) (hsub : ∀ a b, Ext a b → Rel a b) (hpre : ∀ a b, Ext a b → Pre a → Pre b) (hpost : ∀ a b, Ext a b → Post a → Post b) (hk0 : k0 < n) (hw : Pre w)
    (hlen : tab.length = n) (hnd : (tab.map (·.1)).Nodup) (hsz : ∀ d ∈ tab.map (·.1), d < a.tmps.size) (hmono : SoftMonoX Rel k0 tab)
    (hend : ∀ a' W, SoftAtP Rel k0 Pre Post tab a a' w W (doneTo n l.length) → wpList P l.toArray Q (l.drop n) a' W)
    (hstep : SoftAllX Rel k0 Pre Post P l.toArray tab Q a w (l.take n) 0) : (Code.region id l.toArray true).wp P Q a w := by
  unfold softForm at hform
  simp only [Bool.and_eq_true, decide_eq_true_eq] at hform
  obtain ⟨⟨⟨⟨hn, hs⟩, hc⟩, hb⟩, hq⟩ := hform
  have hdl : (l.drop n).length = l.length - n := by simp
  have inv0 : HeadInv .any l.toArray n (Array.replicate l.toArray.size false) :=
    ⟨by simp, fun j oj _ hl => (by rw [getD_replicate_false] at hl; cases hl), fun t _ ht => getD_in (by simpa using ht) (getD_replicate_false _ _)⟩
  refine wp_region_any hm ?_
  have := wpAny_softX (Rel := Rel) (k0 := k0) (Pre := Pre) (Post := Post) (P := P) (ops := l.toArray) (n := n) (tab := tab) (Q := Q) (a0 := a) (w := w) (rest := l.drop n) htrans hlen hnd hsz (by simpa using hn) hs hc
    (fun k o hk ho => softBackN_spec hb k o hk (by simpa using ho)) hmono
    hsub hpre hpost hk0
    (fun k o hk hne ho => by
      have := softAllX_spec (l.take n) 0 hstep k o (by rw [List.getElem?_take, if_pos hk]; simpa using ho)
      rw [Nat.zero_add, if_neg hne] at this
      exact this)
    (fun o ho => by
      have := softAllX_spec (l.take n) 0 hstep k0 o (by rw [List.getElem?_take, if_pos hk0]; simpa using ho)
      rw [Nat.zero_add, if_pos rfl] at this
      exact this)
    (fun j => by simp [List.getElem?_drop]) (by simp) (by rw [hdl]; simpa using hq) (fun a' W h => hend a' W (by simpa using h)) n (Array.replicate l.toArray.size false) a { w with drawn := w.drawn + 1 } inv0
    (by
      simp
      omega) ⟨hsub _ _ ((Ext.refl w).drew), ⟨fun hh => (by rw [getD_replicate_false] at hh; cases hh), fun _ => hpre _ _ ((Ext.refl w).drew) hw⟩, rfl, rfl, fun _ _ => rfl, fun k d R h1 h2 => by rw [getD_replicate_false] at h2; cases h2⟩
  rw [hdl] at this
  have e : n + (l.length - n) = l.toArray.size := by simp; omega
  rw [e] at this
  exact this

/-- a builtin that turns more than it makes -/
theorem softX_val {Rel : World → World → Prop} {Pre Post : World → Prop} {P : Program} {ops : Array Oper} {tab : SoftTab} {Q : Exit → Act → World → Prop} {a0 : Act} {w : World} {k : Nat} {o : Oper} (d : Nat) (R : Told) (hk : ops[k]? = some o) (hd : o.dst = some d) (htab : tab[k]? = some (d, R))
    (h : ∀ (a : Act) (W : World), Rel w W → Pre W → (∀ t, t ∉ tab.map (·.1) → a.tmps.getD t undef = a0.tmps.getD t undef) → (∀ e ∈ o.after.toList, Region.binds .any e = true → ∀ (d : Nat) (R : Told), tab[e.on]? = some (d, R) → R (a.tmps.getD d undef) W ∧ d < a.tmps.size) →
      Region.wanted o (yielded ops a.tmps) = true ∧ ∃ v W', (execOp a.eval o).run P W = .ok (.value v) W' ∧ R v W' ∧ Rel W W' ∧ Post W') : SoftStepC Rel Pre Post P ops tab Q a0 w k o := by
  intro a W hx hpre hout hdep d' R' ht
  rw [htab] at ht
  injection ht with ht
  injection ht with e1 e2
  subst e1
  subst e2
  obtain ⟨hw, v, W', hrun, hR, hE, hP⟩ := h a W hx hpre hout hdep
  unfold wpOp
  simp only [hk]
  rw [if_pos hw]
  refine Or.inl ?_
  unfold Oper.wp
  rw [hrun, Oper.upon_value, hd]
  exact ⟨v, rfl, hR, hE, hP⟩

/-- the region, the frame behind it written out -/
theorem wp_soft_frameX (Rel : World → World → Prop) (k0 : Nat) (Pre Post : World → Prop) {P : Program} {l : List Oper} (n : Nat) (tab : SoftTab) {Q : Exit → Act → World → Prop} {a : Act} {w : World} {id : Nat} (hm : P.follows .mixedOrders = true)
    (hform : softForm n l = true) (htrans : ∀ a b c, Rel a b → Rel b c → Rel a c) (hsub : ∀ a b, Ext a b → Rel a b) (hpre : ∀ a b, Ext a b → Pre a → Pre b) (hpost : ∀ a b, Ext a b → Post a → Post b) (hk0 : k0 < n) (hw : Pre w)
    (hlen : tab.length = n) (hnd : (tab.map (·.1)).Nodup) (hsz : ∀ d ∈ tab.map (·.1), d < a.tmps.size) (hmono : SoftMonoX Rel k0 tab)
    (hend : ∀ (W : World) (vs : List Value), ToldAll tab vs W → Rel w W → Post W → wpList P l.toArray Q (l.drop n) ⟨putAll a.tmps ((tab.map (·.1)).zip vs), a.defers⟩ W)
    (hstep : SoftAllX Rel k0 Pre Post P l.toArray tab Q a w (l.take n) 0) : (Code.region id l.toArray true).wp P Q a w := by
  refine wp_soft_tailX Rel k0 Pre Post n tab hm hform htrans hsub hpre hpost hk0 hw hlen hnd hsz hmono (fun a' W hS => ?_) hstep
  have h1 := hend W (tab.map fun p => a'.tmps.getD p.1 undef) (toldAll_of (f := fun d => a'.tmps.getD d undef) tab fun k d R hk => hS.told k d R hk (by
    have hk' : k < n := by have := (List.getElem?_eq_some_iff.1 hk).1; omega
    simp [doneTo, hk', List.getElem?_append])) hS.rel (hS.phase.1 (by simp [doneTo, hk0, List.getElem?_append]))
  rw [zip_told (fun d => a'.tmps.getD d undef), ← putAll_of a'.tmps _ a.tmps hS.size hS.out, ← hS.defers] at h1
  exact h1

end Go.Proofs.Ytnocdfmmhnnbeaa

namespace Go.Proofs.Ytnocdfmmhnnbeaa
open Go.ChangeShapes Go.WideShapes Go.ChangeAt Go.RowKit Go.Sort
set_option linter.unusedVariables false
set_option linter.unusedSimpArgs false
attribute [local go_sem] World.cell?_alloc_some

theorem GB.trans {row : Option Nat} {a b c : World} (h : a.grownBy b row) (k : b.grownBy c row) : a.grownBy c row :=
  ⟨k.os.trans h.os, k.tape.trans h.tape, k.output.trans h.output, Nat.le_trans h.size k.size, fun j hj hne => (k.block j (Nat.lt_of_lt_of_le hj h.size) hne).trans (h.block j hj hne)⟩
theorem GB.ext {row : Option Nat} {a b : World} (h : Ext a b) : a.grownBy b row := ⟨RowKit.Below.os h, RowKit.Below.tape h, RowKit.Below.output h, h.size, fun k hk _ => RowKit.Below.block h k hk⟩
theorem GB.size {row : Option Nat} {a b : World} (h : a.grownBy b row) : a.heap.size ≤ b.heap.size := h.size
theorem GB.cell {row : Option Nat} {q j : Nat} {W W' : World} {x : Value} (h : W.grownBy W' row) (hc : W.cell? ⟨q, j, none⟩ = some x) (hne : some q ≠ row) : W'.cell? ⟨q, j, none⟩ = some x := by
  rw [World.cell?_of_block (w := W) (w' := W') (a := ⟨q, j, none⟩) (h.block q (World.block_lt_of_cell? _ _ hc) hne)]; exact hc
theorem ZS.of {W : World} {q : Nat} {z : Int} (h : W.heap[q]? = some (.cells #[Vi z] 3 (0, 0))) : ZS W (some ⟨q, 0, none⟩) [z] := fun _ => by
  refine ⟨q, 0, rfl, fun j u hu => ?_⟩
  rw [Nat.zero_add, cell_of_row W q j _ _ (0, 0) h]
  cases j with
  | zero => simpa using hu
  | succ j => simp at hu
theorem kid_put (ns : List Nd) (L : List Nat) (m : Nat) (nd : Nd) (h : ns[m]? = some nd) : (fun s k => zs (kidN ns (L ++ [m]) s k)) = putK (fun s k => zs (kidN ns L s k)) nd.right nd.on (m : Int) := by
  funext s k
  unfold putK
  rw [kidN_snoc]
  have hb : hangB ns s k m = true ↔ (s = nd.right ∧ k = nd.on) := by
    unfold hangB
    rw [getD_of h, Bool.and_eq_true, decide_eq_true_eq, beq_iff_eq]
    exact ⟨fun e => ⟨e.2.symm, e.1.symm⟩, fun e => ⟨e.2.symm, e.1.symm⟩⟩
  by_cases e : s = nd.right ∧ k = nd.on
  · rw [if_pos (hb.2 e), if_pos e, zs_app, e.1, e.2]; rfl
  · rw [if_neg (fun h => e (hb.1 h)), if_neg e]
theorem kid_len_le (ns : List Nd) (L : List Nat) (s : Bool) (k : Nat) : (zs (kidN ns L s k)).length ≤ L.length := by
  rw [zs_len]; exact List.length_filter_le _ _

/-- what the slots hold -/
def usi7 (w2 : World) (br pb on m K sA : Nat) (A0 : Option Addr) (n0 c00 : Nat) (vb : Option Nat) (Kl : List Int) : SoftTab := [(35, fun z9 W => z9 = .slice (some ⟨br, 0, none⟩) K K),
  (36, fun z9 W => z9 = .pointer (some ⟨pb, 2, none⟩)),
  (37, fun z9 W => z9 = Vi (on : Int)),
  (38, fun z9 W => z9 = .slice (some ⟨br, 0, none⟩) K K),
  (39, fun z9 W => z9 = .pointer (some ⟨pb, 2, none⟩)),
  (40, fun z9 W => z9 = Vi (on : Int)),
  (41, fun z9 W => z9 = .pointer (some ⟨br, on, none⟩)),
  (42, fun z9 W => z9 = .slice A0 n0 c00),
  (43, fun z9 W => z9 = Vi (m : Int)),
  (44, fun z9 W => ∃ q, z9 = .slice (some ⟨q, 0, none⟩) 1 1 ∧ some q ≠ vb ∧ W.heap[q]? = some (.cells #[Vi (m : Int)] 3 (0, 0))),
  (45, fun z9 W => OwnZ w2 W z9 (Kl ++ [(m : Int)]) ∧ (z9.ownBlock = vb ∨ ∃ q, z9.ownBlock = some q ∧ sA ≤ q))]
theorem usi7_mono (w2 : World) (br pb on m K sA : Nat) (A0 : Option Addr) (n0 c00 : Nat) (vb : Option Nat) (Kl : List Int) : SoftMonoX (fun a b => a.grownBy b vb) 10 (usi7 w2 br pb on m K sA A0 n0 c00 vb Kl) := by
  constructor
  · intro k d R hk v W W' h hx
    match k, hk with
    | 0, hk => cases hk; exact h
    | 1, hk => cases hk; exact h
    | 2, hk => cases hk; exact h
    | 3, hk => cases hk; exact h
    | 4, hk => cases hk; exact h
    | 5, hk => cases hk; exact h
    | 6, hk => cases hk; exact h
    | 7, hk => cases hk; exact h
    | 8, hk => cases hk; exact h
    | 9, hk => cases hk; obtain ⟨q, h1, h2, h3⟩ := h; exact ⟨q, h1, h2, (RowKit.Below.block hx q (Array.getElem?_eq_some_iff.1 h3).1).trans h3⟩
    | 10, hk => cases hk; exact ⟨h.1.ext hx, h.2⟩
    | n + 11, hk => simp [usi7] at hk
  · intro k d R hk hne v W W' h hx
    match k, hk with
    | 0, hk => cases hk; exact h
    | 1, hk => cases hk; exact h
    | 2, hk => cases hk; exact h
    | 3, hk => cases hk; exact h
    | 4, hk => cases hk; exact h
    | 5, hk => cases hk; exact h
    | 6, hk => cases hk; exact h
    | 7, hk => cases hk; exact h
    | 8, hk => cases hk; exact h
    | 9, hk => cases hk; obtain ⟨q, h1, h2, h3⟩ := h; exact ⟨q, h1, h2, (hx.block q (Array.getElem?_eq_some_iff.1 h3).1 h2).trans h3⟩
    | 10, hk => exact absurd rfl hne
    | n + 11, hk => simp [usi7] at hk
/-- what the slots hold -/
def usi8 (w2 : World) (bl pb on m K sA : Nat) (A0 : Option Addr) (n0 c00 : Nat) (vb : Option Nat) (Kl : List Int) : SoftTab := [(47, fun z9 W => z9 = .slice (some ⟨bl, 0, none⟩) K K),
  (48, fun z9 W => z9 = .pointer (some ⟨pb, 2, none⟩)),
  (49, fun z9 W => z9 = Vi (on : Int)),
  (50, fun z9 W => z9 = .slice (some ⟨bl, 0, none⟩) K K),
  (51, fun z9 W => z9 = .pointer (some ⟨pb, 2, none⟩)),
  (52, fun z9 W => z9 = Vi (on : Int)),
  (53, fun z9 W => z9 = .pointer (some ⟨bl, on, none⟩)),
  (54, fun z9 W => z9 = .slice A0 n0 c00),
  (55, fun z9 W => z9 = Vi (m : Int)),
  (56, fun z9 W => ∃ q, z9 = .slice (some ⟨q, 0, none⟩) 1 1 ∧ some q ≠ vb ∧ W.heap[q]? = some (.cells #[Vi (m : Int)] 3 (0, 0))),
  (57, fun z9 W => OwnZ w2 W z9 (Kl ++ [(m : Int)]) ∧ (z9.ownBlock = vb ∨ ∃ q, z9.ownBlock = some q ∧ sA ≤ q))]
theorem usi8_mono (w2 : World) (bl pb on m K sA : Nat) (A0 : Option Addr) (n0 c00 : Nat) (vb : Option Nat) (Kl : List Int) : SoftMonoX (fun a b => a.grownBy b vb) 10 (usi8 w2 bl pb on m K sA A0 n0 c00 vb Kl) := by
  constructor
  · intro k d R hk v W W' h hx
    match k, hk with
    | 0, hk => cases hk; exact h
    | 1, hk => cases hk; exact h
    | 2, hk => cases hk; exact h
    | 3, hk => cases hk; exact h
    | 4, hk => cases hk; exact h
    | 5, hk => cases hk; exact h
    | 6, hk => cases hk; exact h
    | 7, hk => cases hk; exact h
    | 8, hk => cases hk; exact h
    | 9, hk => cases hk; obtain ⟨q, h1, h2, h3⟩ := h; exact ⟨q, h1, h2, (RowKit.Below.block hx q (Array.getElem?_eq_some_iff.1 h3).1).trans h3⟩
    | 10, hk => cases hk; exact ⟨h.1.ext hx, h.2⟩
    | n + 11, hk => simp [usi8] at hk
  · intro k d R hk hne v W W' h hx
    match k, hk with
    | 0, hk => cases hk; exact h
    | 1, hk => cases hk; exact h
    | 2, hk => cases hk; exact h
    | 3, hk => cases hk; exact h
    | 4, hk => cases hk; exact h
    | 5, hk => cases hk; exact h
    | 6, hk => cases hk; exact h
    | 7, hk => cases hk; exact h
    | 8, hk => cases hk; exact h
    | 9, hk => cases hk; obtain ⟨q, h1, h2, h3⟩ := h; exact ⟨q, h1, h2, (hx.block q (Array.getElem?_eq_some_iff.1 h3).1 h2).trans h3⟩
    | 10, hk => exact absurd rfl hne
    | n + 11, hk => simp [usi8] at hk

set_option maxRecDepth 100000 in
set_option maxHeartbeats 16000000 in
theorem sides_any (g : Nat) (l : List It) (ns : List Nd) (w : World) (h : GrT w g l ns) (hb : l.length ≤ 5026338869800) :
    Calls Try.prog 29 #[.pointer (some ⟨g, 0, none⟩)] w fun e w' => ∃ bl br V L B, e = .returned (.tuple #[.slice (some ⟨bl, 0, none⟩) (l.length + 1) (l.length + 1), .slice (some ⟨br, 0, none⟩) (l.length + 1) (l.length + 1)]) ∧ FallN l ns L ∧
      SdV B w' bl br (l.length + 1) (fun s k => zs (kidN ns L s k)) V ∧ Ext w w' := by
  obtain ⟨K, hK⟩ : ∃ K, l.length + 1 = K := ⟨_, rfl⟩
  rw [hK]
  obtain ⟨b, o, cap, g0, hcap, hN⟩ := h.cells
  rw [hK] at g0
  have hmk := fun W => make_rows (K : Int) K rfl (by omega) W
  replace h := Lib.hid h
  replace hK := Lib.hid hK
  have hNd := Lib.hid hN
  clear hcap hN
  go_enter Try.func29, Try.ntmps29
  go_wp2
  go_cut [2, 3] (fun a c wx => ∃ bl br, a = .slice (some ⟨bl, 0, none⟩) K K ∧ c = .slice (some ⟨br, 0, none⟩) K K ∧ Hid (wx.heap[bl]? = some (.cells (madeCells #[.slice none 0 0] K) 40 (0, 0)) ∧ wx.heap[br]? = some (.cells (madeCells #[.slice none 0 0] K) 40 (0, 0)) ∧ w.heap.size ≤ bl ∧ w.heap.size ≤ br ∧ bl ≠ br ∧ Ext w wx))
  case first =>
    have t1 : Ext (w.alloc (.cells (madeCells #[.slice none 0 0] K) 40)) (((w.alloc (.cells (madeCells #[.slice none 0 0] K) 40)).alloc (.cells (madeCells #[.slice none 0 0] K) 40)).drew) := ((Ext.refl _).alloc _).drew
    have t0 : Ext w (((w.alloc (.cells (madeCells #[.slice none 0 0] K) 40)).alloc (.cells (madeCells #[.slice none 0 0] K) 40)).drew) := (((Ext.refl w).alloc _).alloc _).drew
    have s1 : (w.alloc (.cells (madeCells #[.slice none 0 0] K) 40)).heap.size = w.heap.size + 1 := by simp
    have u0 : (((w.alloc (.cells (madeCells #[.slice none 0 0] K) 40)).alloc (.cells (madeCells #[.slice none 0 0] K) 40)).drew).heap[w.heap.size]? = some (.cells (madeCells #[.slice none 0 0] K) 40 (0, 0)) := by
      rw [RowKit.Below.block t1 w.heap.size (by omega)]; exact heap_alloc_new w _
    have u1 : (((w.alloc (.cells (madeCells #[.slice none 0 0] K) 40)).alloc (.cells (madeCells #[.slice none 0 0] K) 40)).drew).heap[w.heap.size + 1]? = some (.cells (madeCells #[.slice none 0 0] K) 40 (0, 0)) := by
      rw [← s1]; exact heap_alloc_new (w.alloc (.cells (madeCells #[.slice none 0 0] K) 40)) _
    have f1 := Lib.hid (⟨u0, u1, Nat.le_refl _, by omega, by omega, t0⟩ : _ ∧ _ ∧ w.heap.size ≤ w.heap.size ∧ w.heap.size ≤ w.heap.size + 1 ∧ w.heap.size ≠ w.heap.size + 1 ∧ Ext w _)
    have f2 := Lib.hid (⟨u1, u0, by omega, Nat.le_refl _, by omega, t0⟩ : _ ∧ _ ∧ w.heap.size ≤ w.heap.size + 1 ∧ w.heap.size ≤ w.heap.size ∧ w.heap.size + 1 ≠ w.heap.size ∧ Ext w _)
    clear u0 u1 t0 t1 s1
    go_region
    · go_wp2_with fail
      go_meet
      exact ⟨_, _, rfl, rfl, f1⟩
    · go_wp2_with fail
      go_meet
      exact ⟨_, _, rfl, rfl, f2⟩
  case rest =>
    obtain ⟨bl, br, rfl, rfl, hh⟩ := hcut
    obtain ⟨hh1, hh2, hbl, hbr, hne, hxc⟩ := hh.out
    obtain ⟨n, hn⟩ : ∃ n, l.length = n := ⟨_, rfl⟩
    have hKn := Lib.hid (show K = n + 1 by rw [← hK.out, hn])
    have hnb : n ≤ 5026338869800 := by omega
    have hfal := Lib.hid (falling_any g l ns wc (h.out.ext hxc) hb)
    rw [hn] at hfal
    have hlt1 := (Array.getElem?_eq_some_iff.1 hh1).1
    have hlt2 := (Array.getElem?_eq_some_iff.1 hh2).1
    have q0 := hxc.keep g0
    replace hn := Lib.hid hn
    clear hh
    go_wp2_with fail
    refine hfal.out.mono ?_
    rintro e w2 ⟨q, c, L, rfl, hq, hL2, hL, hz, x2⟩
    have hqbl : q ≠ bl := by omega
    have hqbr : q ≠ br := by omega
    have hqlt : 0 < n → q < w2.heap.size := fun h0 => by
      obtain ⟨b', o', e, hc⟩ := hz (by rw [List.length_map, zs_len, hL2]; exact h0)
      injection e with e
      injection e with e1 e2 e3
      have := hc 0 (Vi ((zs L)[0]'(by rw [zs_len, hL2]; exact h0))) (by simp)
      rw [e1]
      exact World.block_lt_of_cell? _ _ this
    have hS0 := Lib.hid (SdV.made (w0 := w2) (W := w2) ((RowKit.Below.block x2 bl hlt1).trans hh1) ((RowKit.Below.block x2 br hlt2).trans hh2) hne)
    have hG0 := Lib.hid (GX.refl w2.heap.size bl br w2 (Nat.le_refl _))
    have hxw := Lib.hid (hxc.trans x2)
    replace hz := Lib.hid hz
    replace hL2 := Lib.hid hL2
    replace hL := Lib.hid hL
    clear x2 hxc hh1 hh2 hlt1 hlt2 q0 hfal hq
    go_wp2
    go_loopw [22] (fun i W => ∃ (j : Nat), j ≤ n ∧ i = Vi (j : Int) ∧ (∃ V, Hid (SdV w2 W bl br K (fun s k => zs (kidN ns (L.take j) s k)) V)) ∧ Hid (GX w2.heap.size bl br w2 W)) (fun i _ => n - (intOf i).toNat)
    case atStart => exact ⟨0, Nat.zero_le _, rfl, ⟨_, hS0⟩, hG0⟩
    case round =>
      clear hS0 hG0
      obtain ⟨j, hj, rfl, ⟨V, hS⟩, hG⟩ := hrel
      have hE := Lib.hid (hG.out.down hxw.out (Nat.le_refl _) hbl hbr)
      have q0 := hE.out.keep g0
      by_cases hlt : j < n
      · obtain ⟨m, hm⟩ : ∃ m, L[j]? = some m := ⟨L[j]'(by rw [hL2.out]; exact hlt), List.getElem?_eq_getElem _⟩
        obtain ⟨hm0, hmn⟩ := (hL.out.mem m).1 (List.mem_of_getElem? hm)
        rw [hn.out] at hmn
        obtain ⟨nd, hnd⟩ := h.out.ok.get (n := m) (by rw [hn.out]; exact hmn)
        have hon := (h.out.ok.deep m nd hnd).2.1
        rw [hn.out] at hon
        have hkid := Lib.hid (show (fun s k => zs (kidN ns (L.take (j + 1)) s k)) = putK (fun s k => zs (kidN ns (L.take j) s k)) nd.right nd.on (m : Int) by rw [take_get hm]; exact kid_put ns (L.take j) m nd hnd)
        have hcm : wr.cell? ⟨q, j, none⟩ = some (Vi (m : Int)) := by
          obtain ⟨b', o', e, hc⟩ := hz.out.at (k := j) (z := (m : Int)) (by unfold zs; rw [List.getElem?_map, hm]; rfl)
          injection e with e
          injection e with e1 e2 e3
          subst e1
          subst e2
          rw [Nat.zero_add] at hc
          rw [World.cell?_of_block (w := w2) (w' := wr) (a := ⟨q, j, none⟩) (hG.out.block q (hqlt (by omega)) hqbl hqbr)]
          exact hc
        obtain ⟨c0, c1, c2, c3, c4, c5⟩ := (hNd.out.ext hE.out).at hnd
        have hi1 : (0 : Int) ≤ (nd.on : Int) := by omega
        have hi2 : (nd.on : Int) < (K : Int) := by have := hKn.out; omega
        have hj1 : (0 : Int) ≤ (m : Int) := by omega
        have hj2 : (m : Int) < (K : Int) := by have := hKn.out; omega
        have hk1 : (0 : Int) ≤ (j : Int) := by omega
        have hk2 : (j : Int) < (n : Int) := by omega
        have honK : nd.on < K := by have := hKn.out; omega
        have hkl := kid_len_le ns (L.take j) nd.right nd.on
        rw [List.length_take, hL2.out] at hkl
        clear hnd hm hm0
        obtain ⟨⟨ia, ib⟩, on, rr, dp, fr⟩ := nd
        simp only at hkid c0 c1 c2 c3 c4 c5 hi1 hi2 honK hkl hon
        obtain ⟨A0, c00, hv0, hc00, _⟩ := (hS.out.own rr on honK).open
        have hfar := hS.out.far rr on honK
        have hown := hS.out.own rr on honK
        have hcell := hS.out.cell rr honK
        obtain ⟨Kl, hKle⟩ : ∃ Kl, zs (kidN ns (L.take j) rr on) = Kl := ⟨_, rfl⟩
        obtain ⟨n0, hn0⟩ : ∃ n0, Kl.length = n0 := ⟨_, rfl⟩
        simp only [hKle] at hv0 hc00 hown hkl
        rw [hn0] at hv0 hc00 hkl
        obtain ⟨vb, hvb⟩ : ∃ vb, (Value.slice A0 n0 c00).ownBlock = vb := ⟨_, rfl⟩
        rw [hv0] at hfar hown hcell
        rw [hvb] at hfar
        have hvl := hown.lt
        rw [hvb] at hvl
        have hVb := Lib.hid (show (V rr on).ownBlock = vb by rw [hv0, hvb])
        replace hvb := Lib.hid hvb
        have xa := (Ext.refl wr).alloc (.cells #[.int .u32 ia, .int .u32 ib, .int .i64 (on : Int), .bool rr, .int .i64 (dp : Int), .int .i64 (fr : Int)] 68)
        have e2 : (wr.alloc (.cells #[.int .u32 ia, .int .u32 ib, .int .i64 (on : Int), .bool rr, .int .i64 (dp : Int), .int .i64 (fr : Int)] 68)).cell? ⟨wr.heap.size, 2, none⟩ = some (Vi (on : Int)) := by simp [go_sem]
        have hsz : (wr.alloc (.cells #[.int .u32 ia, .int .u32 ib, .int .i64 (on : Int), .bool rr, .int .i64 (dp : Int), .int .i64 (fr : Int)] 68)).heap.size = wr.heap.size + 1 := by simp
        have er := xa.keep hcell
        have hSA := Lib.hid (hS.out.ext xa)
        have hGA := Lib.hid (hG.out.ext xa)
        have ho := Lib.hid (hown.ext xa)
        have hbsv : some (cond rr br bl) ≠ vb := fun e => hfar rr e.symm
        have hpbv : some wr.heap.size ≠ vb := fun e => by have := (hvl _ e.symm).2; omega
        have hvlt := Lib.hid (fun (q : Nat) (hq : (wr.alloc (.cells #[.int .u32 ia, .int .u32 ib, .int .i64 (on : Int), .bool rr, .int .i64 (dp : Int), .int .i64 (fr : Int)] 68)).heap.size ≤ q) => show some q ≠ vb from fun e => by have := (hvl _ e.symm).2; omega)
        have hvge := Lib.hid (fun k (hk : vb = some k) => (hvl k hk).1)
        have hKl := Lib.hid (show Kl.length + 1 ≤ 17000000000000 by omega)
        have hBw := Lib.hid hGA.out.size
        replace hn0 := Lib.hid hn0
        replace hKle := Lib.hid hKle
        clear hfar hown hcell hvl xa hsz hv0 hS hG hE
        cases rr with
        | true =>
          go_wp2_with fail
          generalize wr.alloc (.cells #[.int .u32 ia, .int .u32 ib, .int .i64 (on : Int), .bool true, .int .i64 (dp : Int), .int .i64 (fr : Int)] 68) = wA at *
          generalize wr.heap.size = pb at *
          obtain ⟨sA, hsA⟩ : ∃ s, wA.heap.size = s := ⟨_, rfl⟩
          replace hsA := Lib.hid hsA
          simp only [cond_true] at er hbsv
          clear c0 c1 c2 c3 c4 c5 hcm
          refine wp_soft_frameX (fun a b => a.grownBy b vb) 10 (fun W => OwnZ w2 W (.slice A0 n0 c00) Kl) (fun _ => True) 11 (usi7 w2 br pb on m K sA A0 n0 c00 vb Kl) (by kernel_rfl) (by kernel_rfl) (fun _ _ _ => GB.trans) (fun _ _ => GB.ext) (fun _ _ h hh => hh.ext h) (fun _ _ _ _ => trivial) (by omega) ho.out rfl (by show List.Nodup [35, 36, 37, 38, 39, 40, 41, 42, 43, 44, 45]; decide) (by show ∀ d ∈ [35, 36, 37, 38, 39, 40, 41, 42, 43, 44, 45], d < 62; decide) (usi7_mono w2 br pb on m K sA A0 n0 c00 vb Kl) ?_ ⟨?_, ?_, ?_, ?_, ?_, ?_, ?_, ?_, ?_, ?_, ?_, trivial⟩
          · intro W vs hT hR _
            match vs, hT with
            | [v0, v1, v2, v3, v4, v5, v6, v7, v8, v9, v10], ⟨e0, e1, e2, e3, e4, e5, e6, e7, e8, e9, e10, _⟩ =>
              simp only [usi7, List.map_cons, List.map_nil, List.zip_cons_cons, List.zip_nil_left, putAll, List.setIfInBounds_toArray, List.set_cons_zero, List.set_cons_succ, List.drop_succ_cons, List.drop_zero]
              simp only at e0 e1 e2 e3 e4 e5 e6 e7 e8
              obtain ⟨q9, e9, h9⟩ := e9
              rw [e0, e1, e2, e3, e4, e5, e6, e7, e8, e9]
              clear e0 e1 e2 e3 e4 e5 e6 e7 e8 e9 v0 v1 v2 v3 v4 v5 v6 v7 v8 v9
              obtain ⟨o10, b10⟩ := e10
              obtain ⟨A1, c1', hv1, _, _⟩ := o10.open
              rw [List.length_append, List.length_cons, List.length_nil, hn0.out] at hv1
              subst hv1
              have hgV : wA.grownBy W (V true on).ownBlock := by rw [hVb.out]; exact hR
              have hS2 := hSA.out.put true honK (m : Int) (by simp only [hKle.out]; exact o10) hgV (by rw [hVb.out]; exact b10.imp id (fun e => e.elim fun q hq => ⟨q, hq.1, by rw [hsA.out]; exact hq.2⟩))
              have hS3 := Lib.hid (show SdV w2 (W.setCell ⟨br, on, none⟩ (.slice A1 (n0 + (0 + 1)) c1')) bl br K (fun s k => zs (kidN ns (L.take (j + 1)) s k)) _ by rw [hkid.out]; exact hS2)
              have hG3 := Lib.hid ((hGA.out.on hR (fun k hk => .inl (hvge.out k hk))).on (RX.set (RX.refl br W) on (.slice A1 (n0 + (0 + 1)) c1') (.inr rfl)) (fun k e => by injection e with e; subst e; simp))
              have erW := GB.cell hR er hbsv
              have f1 : W.frozen? ⟨br, on, none⟩ = false := by
                have hr := hSA.out.row true
                have := (hgV.block _ (Array.getElem?_eq_some_iff.1 hr).1 (fun e => hSA.out.far true on honK true e.symm)).trans hr
                exact frozen_of_row W _ on _ _ this
              clear hS2 hgV o10 b10 hT er
              go_wp2
              go_roundw
              case rel => exact ⟨j + 1, by omega, by go_num, ⟨_, hS3⟩, hG3⟩
              case measure => simp [intOf]; omega
          · rw [if_neg (by decide)]
            refine softP_val 35 _ (by kernel_rfl) rfl rfl ?_
            intro a W hx hout hdep
            have ev3 : a.tmps[3]?.getD undef = .slice (some ⟨br, 0, none⟩) K K := by rw [← Array.getD_eq_getD_getElem?]; exact hout 3 (by show 3 ∉ [35, 36, 37, 38, 39, 40, 41, 42, 43, 44, 45]; decide)
            refine ⟨rfl, .slice (some ⟨br, 0, none⟩) K K, W, ?_, rfl, Ext.refl _⟩
            simp [ev3, execOp, go_sem]
          · rw [if_neg (by decide)]
            refine softP_val 36 _ (by kernel_rfl) rfl rfl ?_
            intro a W hx hout hdep
            have ev6 : a.tmps[6]?.getD undef = .pointer (some ⟨pb, 0, none⟩) := by rw [← Array.getD_eq_getD_getElem?]; exact hout 6 (by show 6 ∉ [35, 36, 37, 38, 39, 40, 41, 42, 43, 44, 45]; decide)
            refine ⟨rfl, .pointer (some ⟨pb, 2, none⟩), W, ?_, rfl, Ext.refl _⟩
            simp [ev6, execOp, go_sem]
          · rw [if_neg (by decide)]
            refine softP_val 37 _ (by kernel_rfl) rfl rfl ?_
            intro a W hx hout hdep
            have ev36 : a.tmps[36]?.getD undef = .pointer (some ⟨pb, 2, none⟩) := by rw [← Array.getD_eq_getD_getElem?]; exact (hdep ⟨1, .data⟩ (by simp) rfl 36 _ rfl).1
            have q0 := GB.cell hx e2 hpbv
            refine ⟨rfl, Vi (on : Int), W, ?_, rfl, Ext.refl _⟩
            simp [ev36, q0, execOp, go_sem]
          · rw [if_neg (by decide)]
            refine softP_val 38 _ (by kernel_rfl) rfl rfl ?_
            intro a W hx hout hdep
            have ev3 : a.tmps[3]?.getD undef = .slice (some ⟨br, 0, none⟩) K K := by rw [← Array.getD_eq_getD_getElem?]; exact hout 3 (by show 3 ∉ [35, 36, 37, 38, 39, 40, 41, 42, 43, 44, 45]; decide)
            refine ⟨rfl, .slice (some ⟨br, 0, none⟩) K K, W, ?_, rfl, Ext.refl _⟩
            simp [ev3, execOp, go_sem]
          · rw [if_neg (by decide)]
            refine softP_val 39 _ (by kernel_rfl) rfl rfl ?_
            intro a W hx hout hdep
            have ev6 : a.tmps[6]?.getD undef = .pointer (some ⟨pb, 0, none⟩) := by rw [← Array.getD_eq_getD_getElem?]; exact hout 6 (by show 6 ∉ [35, 36, 37, 38, 39, 40, 41, 42, 43, 44, 45]; decide)
            refine ⟨rfl, .pointer (some ⟨pb, 2, none⟩), W, ?_, rfl, Ext.refl _⟩
            simp [ev6, execOp, go_sem]
          · rw [if_neg (by decide)]
            refine softP_val 40 _ (by kernel_rfl) rfl rfl ?_
            intro a W hx hout hdep
            have ev39 : a.tmps[39]?.getD undef = .pointer (some ⟨pb, 2, none⟩) := by rw [← Array.getD_eq_getD_getElem?]; exact (hdep ⟨4, .data⟩ (by simp) rfl 39 _ rfl).1
            have q0 := GB.cell hx e2 hpbv
            refine ⟨rfl, Vi (on : Int), W, ?_, rfl, Ext.refl _⟩
            simp [ev39, q0, execOp, go_sem]
          · rw [if_neg (by decide)]
            refine softP_val 41 _ (by kernel_rfl) rfl rfl ?_
            intro a W hx hout hdep
            have ev38 : a.tmps[38]?.getD undef = .slice (some ⟨br, 0, none⟩) K K := by rw [← Array.getD_eq_getD_getElem?]; exact (hdep ⟨3, .data⟩ (by simp) rfl 38 _ rfl).1
            have ev40 : a.tmps[40]?.getD undef = Vi (on : Int) := by rw [← Array.getD_eq_getD_getElem?]; exact (hdep ⟨5, .data⟩ (by simp) rfl 40 _ rfl).1
            refine ⟨rfl, .pointer (some ⟨br, on, none⟩), W, ?_, rfl, Ext.refl _⟩
            simp [ev38, ev40, hi1, hi2, execOp, go_sem]
          · rw [if_neg (by decide)]
            refine softP_val 42 _ (by kernel_rfl) rfl rfl ?_
            intro a W hx hout hdep
            have ev41 : a.tmps[41]?.getD undef = .pointer (some ⟨br, on, none⟩) := by rw [← Array.getD_eq_getD_getElem?]; exact (hdep ⟨6, .data⟩ (by simp) rfl 41 _ rfl).1
            have q0 := GB.cell hx er hbsv
            refine ⟨rfl, .slice A0 n0 c00, W, ?_, rfl, Ext.refl _⟩
            simp [ev41, q0, execOp, go_sem]
          · rw [if_neg (by decide)]
            refine softP_val 43 _ (by kernel_rfl) rfl rfl ?_
            intro a W hx hout hdep
            have ev5 : a.tmps[5]?.getD undef = Vi (m : Int) := by rw [← Array.getD_eq_getD_getElem?]; exact hout 5 (by show 5 ∉ [35, 36, 37, 38, 39, 40, 41, 42, 43, 44, 45]; decide)
            refine ⟨rfl, Vi (m : Int), W, ?_, rfl, Ext.refl _⟩
            simp [ev5, execOp, go_sem]
          · rw [if_neg (by decide)]
            refine softP_val 44 _ (by kernel_rfl) rfl rfl ?_
            intro a W hx hout hdep
            have ev43 : a.tmps[43]?.getD undef = Vi (m : Int) := by rw [← Array.getD_eq_getD_getElem?]; exact (hdep ⟨8, .data⟩ (by simp) rfl 43 _ rfl).1
            have hlt : W.heap.size ≠ W.heap.size + 1 := by omega
            refine ⟨rfl, .slice (some ⟨W.heap.size, 0, none⟩) 1 1, _, ?_, ⟨_, rfl, hvlt.out _ (GB.size hx), heap_alloc_new W _⟩, (Ext.refl W).alloc _⟩
            simp [ev43, execOp, go_sem]
          · rw [if_pos rfl]
            refine softX_val 45 _ (by kernel_rfl) rfl rfl ?_
            intro a W hx hpre hout hdep
            have ev42 : a.tmps[42]?.getD undef = .slice A0 n0 c00 := by rw [← Array.getD_eq_getD_getElem?]; exact (hdep ⟨7, .data⟩ (by simp) rfl 42 _ rfl).1
            have tl44 := (hdep ⟨9, .data⟩ (by simp) rfl 44 _ rfl).1
            obtain ⟨q, hq1, hq2, hq3⟩ := tl44
            obtain ⟨v', W1, hr1, hr2, hr3, hr4⟩ := app_Z w2 W 40 (.slice A0 n0 c00) Kl hpre (Nat.le_trans hBw.out (GB.size hx)) (some ⟨q, 0, none⟩) 1 1 [(m : Int)] rfl (ZS.of hq3) (by simp only [List.length_cons, List.length_nil]; exact hKl.out)
            rw [hvb.out] at hr3 hr4
            refine ⟨rfl, v', W1, ?_, ⟨hr2, hr4.imp id (fun e => ⟨_, e, Nat.le_trans (Nat.le_of_eq hsA.out.symm) (GB.size hx)⟩)⟩, hr3, trivial⟩
            rw [← Array.getD_eq_getD_getElem?] at ev42
            simp only [execOp, resolve, invoke, builtin, Sem.run_bind, Sem.run_pure, Result.andThen_ok, List.map_toArray, List.map_cons, List.map_nil, Act.eval, ev42, hq1, hr1]
        | false =>
          go_wp2_with fail
          generalize wr.alloc (.cells #[.int .u32 ia, .int .u32 ib, .int .i64 (on : Int), .bool false, .int .i64 (dp : Int), .int .i64 (fr : Int)] 68) = wA at *
          generalize wr.heap.size = pb at *
          obtain ⟨sA, hsA⟩ : ∃ s, wA.heap.size = s := ⟨_, rfl⟩
          replace hsA := Lib.hid hsA
          simp only [cond_false] at er hbsv
          clear c0 c1 c2 c3 c4 c5 hcm
          refine wp_soft_frameX (fun a b => a.grownBy b vb) 10 (fun W => OwnZ w2 W (.slice A0 n0 c00) Kl) (fun _ => True) 11 (usi8 w2 bl pb on m K sA A0 n0 c00 vb Kl) (by kernel_rfl) (by kernel_rfl) (fun _ _ _ => GB.trans) (fun _ _ => GB.ext) (fun _ _ h hh => hh.ext h) (fun _ _ _ _ => trivial) (by omega) ho.out rfl (by show List.Nodup [47, 48, 49, 50, 51, 52, 53, 54, 55, 56, 57]; decide) (by show ∀ d ∈ [47, 48, 49, 50, 51, 52, 53, 54, 55, 56, 57], d < 62; decide) (usi8_mono w2 bl pb on m K sA A0 n0 c00 vb Kl) ?_ ⟨?_, ?_, ?_, ?_, ?_, ?_, ?_, ?_, ?_, ?_, ?_, trivial⟩
          · intro W vs hT hR _
            match vs, hT with
            | [v0, v1, v2, v3, v4, v5, v6, v7, v8, v9, v10], ⟨e0, e1, e2, e3, e4, e5, e6, e7, e8, e9, e10, _⟩ =>
              simp only [usi8, List.map_cons, List.map_nil, List.zip_cons_cons, List.zip_nil_left, putAll, List.setIfInBounds_toArray, List.set_cons_zero, List.set_cons_succ, List.drop_succ_cons, List.drop_zero]
              simp only at e0 e1 e2 e3 e4 e5 e6 e7 e8
              obtain ⟨q9, e9, h9⟩ := e9
              rw [e0, e1, e2, e3, e4, e5, e6, e7, e8, e9]
              clear e0 e1 e2 e3 e4 e5 e6 e7 e8 e9 v0 v1 v2 v3 v4 v5 v6 v7 v8 v9
              obtain ⟨o10, b10⟩ := e10
              obtain ⟨A1, c1', hv1, _, _⟩ := o10.open
              rw [List.length_append, List.length_cons, List.length_nil, hn0.out] at hv1
              subst hv1
              have hgV : wA.grownBy W (V false on).ownBlock := by rw [hVb.out]; exact hR
              have hS2 := hSA.out.put false honK (m : Int) (by simp only [hKle.out]; exact o10) hgV (by rw [hVb.out]; exact b10.imp id (fun e => e.elim fun q hq => ⟨q, hq.1, by rw [hsA.out]; exact hq.2⟩))
              have hS3 := Lib.hid (show SdV w2 (W.setCell ⟨bl, on, none⟩ (.slice A1 (n0 + (0 + 1)) c1')) bl br K (fun s k => zs (kidN ns (L.take (j + 1)) s k)) _ by rw [hkid.out]; exact hS2)
              have hG3 := Lib.hid ((hGA.out.on hR (fun k hk => .inl (hvge.out k hk))).on (RX.set (RX.refl bl W) on (.slice A1 (n0 + (0 + 1)) c1') (.inr rfl)) (fun k e => by injection e with e; subst e; simp))
              have erW := GB.cell hR er hbsv
              have f1 : W.frozen? ⟨bl, on, none⟩ = false := by
                have hr := hSA.out.row false
                have := (hgV.block _ (Array.getElem?_eq_some_iff.1 hr).1 (fun e => hSA.out.far false on honK false e.symm)).trans hr
                exact frozen_of_row W _ on _ _ this
              clear hS2 hgV o10 b10 hT er
              go_wp2
              go_roundw
              case rel => exact ⟨j + 1, by omega, by go_num, ⟨_, hS3⟩, hG3⟩
              case measure => simp [intOf]; omega
          · rw [if_neg (by decide)]
            refine softP_val 47 _ (by kernel_rfl) rfl rfl ?_
            intro a W hx hout hdep
            have ev2 : a.tmps[2]?.getD undef = .slice (some ⟨bl, 0, none⟩) K K := by rw [← Array.getD_eq_getD_getElem?]; exact hout 2 (by show 2 ∉ [47, 48, 49, 50, 51, 52, 53, 54, 55, 56, 57]; decide)
            refine ⟨rfl, .slice (some ⟨bl, 0, none⟩) K K, W, ?_, rfl, Ext.refl _⟩
            simp [ev2, execOp, go_sem]
          · rw [if_neg (by decide)]
            refine softP_val 48 _ (by kernel_rfl) rfl rfl ?_
            intro a W hx hout hdep
            have ev6 : a.tmps[6]?.getD undef = .pointer (some ⟨pb, 0, none⟩) := by rw [← Array.getD_eq_getD_getElem?]; exact hout 6 (by show 6 ∉ [47, 48, 49, 50, 51, 52, 53, 54, 55, 56, 57]; decide)
            refine ⟨rfl, .pointer (some ⟨pb, 2, none⟩), W, ?_, rfl, Ext.refl _⟩
            simp [ev6, execOp, go_sem]
          · rw [if_neg (by decide)]
            refine softP_val 49 _ (by kernel_rfl) rfl rfl ?_
            intro a W hx hout hdep
            have ev48 : a.tmps[48]?.getD undef = .pointer (some ⟨pb, 2, none⟩) := by rw [← Array.getD_eq_getD_getElem?]; exact (hdep ⟨1, .data⟩ (by simp) rfl 48 _ rfl).1
            have q0 := GB.cell hx e2 hpbv
            refine ⟨rfl, Vi (on : Int), W, ?_, rfl, Ext.refl _⟩
            simp [ev48, q0, execOp, go_sem]
          · rw [if_neg (by decide)]
            refine softP_val 50 _ (by kernel_rfl) rfl rfl ?_
            intro a W hx hout hdep
            have ev2 : a.tmps[2]?.getD undef = .slice (some ⟨bl, 0, none⟩) K K := by rw [← Array.getD_eq_getD_getElem?]; exact hout 2 (by show 2 ∉ [47, 48, 49, 50, 51, 52, 53, 54, 55, 56, 57]; decide)
            refine ⟨rfl, .slice (some ⟨bl, 0, none⟩) K K, W, ?_, rfl, Ext.refl _⟩
            simp [ev2, execOp, go_sem]
          · rw [if_neg (by decide)]
            refine softP_val 51 _ (by kernel_rfl) rfl rfl ?_
            intro a W hx hout hdep
            have ev6 : a.tmps[6]?.getD undef = .pointer (some ⟨pb, 0, none⟩) := by rw [← Array.getD_eq_getD_getElem?]; exact hout 6 (by show 6 ∉ [47, 48, 49, 50, 51, 52, 53, 54, 55, 56, 57]; decide)
            refine ⟨rfl, .pointer (some ⟨pb, 2, none⟩), W, ?_, rfl, Ext.refl _⟩
            simp [ev6, execOp, go_sem]
          · rw [if_neg (by decide)]
            refine softP_val 52 _ (by kernel_rfl) rfl rfl ?_
            intro a W hx hout hdep
            have ev51 : a.tmps[51]?.getD undef = .pointer (some ⟨pb, 2, none⟩) := by rw [← Array.getD_eq_getD_getElem?]; exact (hdep ⟨4, .data⟩ (by simp) rfl 51 _ rfl).1
            have q0 := GB.cell hx e2 hpbv
            refine ⟨rfl, Vi (on : Int), W, ?_, rfl, Ext.refl _⟩
            simp [ev51, q0, execOp, go_sem]
          · rw [if_neg (by decide)]
            refine softP_val 53 _ (by kernel_rfl) rfl rfl ?_
            intro a W hx hout hdep
            have ev50 : a.tmps[50]?.getD undef = .slice (some ⟨bl, 0, none⟩) K K := by rw [← Array.getD_eq_getD_getElem?]; exact (hdep ⟨3, .data⟩ (by simp) rfl 50 _ rfl).1
            have ev52 : a.tmps[52]?.getD undef = Vi (on : Int) := by rw [← Array.getD_eq_getD_getElem?]; exact (hdep ⟨5, .data⟩ (by simp) rfl 52 _ rfl).1
            refine ⟨rfl, .pointer (some ⟨bl, on, none⟩), W, ?_, rfl, Ext.refl _⟩
            simp [ev50, ev52, hi1, hi2, execOp, go_sem]
          · rw [if_neg (by decide)]
            refine softP_val 54 _ (by kernel_rfl) rfl rfl ?_
            intro a W hx hout hdep
            have ev53 : a.tmps[53]?.getD undef = .pointer (some ⟨bl, on, none⟩) := by rw [← Array.getD_eq_getD_getElem?]; exact (hdep ⟨6, .data⟩ (by simp) rfl 53 _ rfl).1
            have q0 := GB.cell hx er hbsv
            refine ⟨rfl, .slice A0 n0 c00, W, ?_, rfl, Ext.refl _⟩
            simp [ev53, q0, execOp, go_sem]
          · rw [if_neg (by decide)]
            refine softP_val 55 _ (by kernel_rfl) rfl rfl ?_
            intro a W hx hout hdep
            have ev5 : a.tmps[5]?.getD undef = Vi (m : Int) := by rw [← Array.getD_eq_getD_getElem?]; exact hout 5 (by show 5 ∉ [47, 48, 49, 50, 51, 52, 53, 54, 55, 56, 57]; decide)
            refine ⟨rfl, Vi (m : Int), W, ?_, rfl, Ext.refl _⟩
            simp [ev5, execOp, go_sem]
          · rw [if_neg (by decide)]
            refine softP_val 56 _ (by kernel_rfl) rfl rfl ?_
            intro a W hx hout hdep
            have ev55 : a.tmps[55]?.getD undef = Vi (m : Int) := by rw [← Array.getD_eq_getD_getElem?]; exact (hdep ⟨8, .data⟩ (by simp) rfl 55 _ rfl).1
            have hlt : W.heap.size ≠ W.heap.size + 1 := by omega
            refine ⟨rfl, .slice (some ⟨W.heap.size, 0, none⟩) 1 1, _, ?_, ⟨_, rfl, hvlt.out _ (GB.size hx), heap_alloc_new W _⟩, (Ext.refl W).alloc _⟩
            simp [ev55, execOp, go_sem]
          · rw [if_pos rfl]
            refine softX_val 57 _ (by kernel_rfl) rfl rfl ?_
            intro a W hx hpre hout hdep
            have ev54 : a.tmps[54]?.getD undef = .slice A0 n0 c00 := by rw [← Array.getD_eq_getD_getElem?]; exact (hdep ⟨7, .data⟩ (by simp) rfl 54 _ rfl).1
            have tl56 := (hdep ⟨9, .data⟩ (by simp) rfl 56 _ rfl).1
            obtain ⟨q, hq1, hq2, hq3⟩ := tl56
            obtain ⟨v', W1, hr1, hr2, hr3, hr4⟩ := app_Z w2 W 40 (.slice A0 n0 c00) Kl hpre (Nat.le_trans hBw.out (GB.size hx)) (some ⟨q, 0, none⟩) 1 1 [(m : Int)] rfl (ZS.of hq3) (by simp only [List.length_cons, List.length_nil]; exact hKl.out)
            rw [hvb.out] at hr3 hr4
            refine ⟨rfl, v', W1, ?_, ⟨hr2, hr4.imp id (fun e => ⟨_, e, Nat.le_trans (Nat.le_of_eq hsA.out.symm) (GB.size hx)⟩)⟩, hr3, trivial⟩
            rw [← Array.getD_eq_getD_getElem?] at ev54
            simp only [execOp, resolve, invoke, builtin, Sem.run_bind, Sem.run_pure, Result.andThen_ok, List.map_toArray, List.map_cons, List.map_nil, Act.eval, ev54, hq1, hr1]
      · have hjn : j = n := by omega
        subst hjn
        have hSf := Lib.hid (show SdV w2 wr bl br K (fun s k => zs (kidN ns L s k)) V by
          have := hS.out
          rwa [List.take_of_length_le (by rw [hL2.out]; exact Nat.le_refl _)] at this)
        clear hS
        go_wp2
        exact bodyPost_ret (v := .tuple #[.slice (some ⟨bl, 0, none⟩) K K, .slice (some ⟨br, 0, none⟩) K K]) (by simp [results, Try.results29, go_sem]) rfl ⟨bl, br, V, L, w2, rfl, hL.out, hSf.out, hE.out⟩

end Go.Proofs.Ytnocdfmmhnnbeaa

namespace Go.Proofs.Ytnocdfmmhnnbeaa
open Go.ChangeShapes Go.WideShapes Go.ChangeAt Go.RowKit Go.Sort
set_option linter.unusedVariables false
set_option linter.unusedSimpArgs false
attribute [local go_sem] World.cell?_alloc_some

theorem OwnZ.empty {w W : World} (hx : Ext w W) : OwnZ w (W.alloc (.cells #[] 3)) (.slice (some ⟨W.heap.size, 0, none⟩) 0 0) [] :=
  ⟨rfl, .inr ⟨W.heap.size, 0, #[], rfl, hx.size, heap_alloc_new W _, Nat.le_refl _, by unfold maxLen; omega, rfl, rfl⟩⟩
set_option maxRecDepth 100000 in
set_option maxHeartbeats 4000000 in
theorem cloneZ_any (A : Option Addr) (n cap : Nat) (l : List Int) (w : World) (hv : ZS w A l) (hn : l.length = n) (hb : n ≤ 17000000000000) :
    Calls Try.prog 30 #[.slice A n cap] w (RetZ w l) := by
  have hq : ∀ (W : World) (a : Option Addr) (n c n' c' : Nat), (binOp .eql 40 (.slice a n c) (.slice none n' c')).run Try.prog W = .ok (.bool a.isNone) W := fun W a n c n' c' => Lib.run_eql_slice_nil W _ _ a n c n' c' Try.underlying40
  cases A with
  | none =>
    have h0 : l = [] := by
      cases l with
      | nil => rfl
      | cons x l => obtain ⟨b, o, e, _⟩ := hv (by simp); cases e
    subst h0
    go_enter Try.func30, Try.ntmps30
    go_wp2
    go_ret
    exact ⟨_, rfl, OwnZ.nil _ _, Ext.refl _⟩
  | some a =>
    have hv1 := hv.ext ((Ext.refl w).alloc (.cells #[] 3))
    have ho := OwnZ.empty (Ext.refl w)
    have hx := (Ext.refl w).alloc (.cells #[] 3)
    go_enter Try.func30, Try.ntmps30
    go_wp2_with (at_builtin; refine wpList_append_Z (w0 := w) rfl (.tmp 5) (.tmp 6) rfl _ [] rfl ho hx.size (some a) n cap l rfl hn hv1 (by simp only [List.length_nil]; omega) ?_)
    intro v3 w3 o3 g3 _
    have x3 := hx.grown g3 (fun k hk => (ho.lt k hk).1)
    go_wp2
    go_ret
    exact ⟨v3, rfl, o3, x3⟩

end Go.Proofs.Ytnocdfmmhnnbeaa

namespace Go.Proofs.Ytnocdfmmhnnbeaa
open Go.ChangeShapes Go.WideShapes Go.ChangeAt Go.RowKit Go.Sort
set_option linter.unusedVariables false
set_option linter.unusedSimpArgs false
attribute [local go_sem] World.cell?_alloc_some

theorem OwnZ.cut {w W : World} {A : Option Addr} {n c : Nat} {l : List Int} {t : Int} (h : OwnZ w W (.slice A n c) (l ++ [t])) (hn : n = l.length + 1) : OwnZ w W (.slice A l.length c) l := by
  unfold OwnZ OwnG at h ⊢
  rw [List.length_append, List.length_singleton] at h
  rcases h with ⟨h1, ⟨h2, h3⟩ | ⟨g, cap, cur, h2, h3, h4, h5, h6, h7, h8⟩⟩
  · omega
  · injection h2 with e1 e2 e3
    subst e1 e3
    refine ⟨by rw [List.length_map, Nat.mul_one], .inr ⟨g, c, cur, rfl, h3, h4, by omega, h6, h7, ?_⟩⟩
    rw [Nat.mul_one] at h8 ⊢
    have := congrArg (List.take l.length) h8
    rw [List.take_take, List.map_append] at this
    rw [show min l.length (l.length + 1) = l.length by omega] at this
    rw [this, List.take_append_of_le_length (by simp), List.take_of_length_le (by simp)]
theorem make_ids (c : Int) (n : Nat) (hc : c = n) (hn : n ≤ 17000000000000) (W : World) : (Instr.makeSlice 32 (.int .i64 0) (.int .i64 c)).run Try.prog W = .ok (.slice (some ⟨W.heap.size, 0, none⟩) 0 n) (W.alloc (.cells (madeCells #[.int .u32 0, .int .u32 0] (n * 2)) 25)) := by
  subst hc
  obtain ⟨i, hi, hz0, hz1, hz2⟩ := info_parts infoO
  have hr := run_make (P := Try.prog) W 32 25 i _ Try.underlying32 hi hz0 .i64 .i64 0 (n : Int) (by omega) (by omega) (by rw [hz2]; omega) (by omega)
  rw [hz1] at hr
  exact hr
theorem OwnO.made (w W : World) (n : Nat) (hx : w.heap.size ≤ W.heap.size) (hn : n ≤ 17000000000000) : OwnO w (W.alloc (.cells (madeCells #[.int .u32 0, .int .u32 0] (n * 2)) 25)) (.slice (some ⟨W.heap.size, 0, none⟩) 0 n) [] :=
  ⟨rfl, .inr ⟨W.heap.size, n, _, rfl, hx, heap_alloc_new W _, Nat.zero_le _, by unfold maxLen; omega, by rw [size_madeCells], rfl⟩⟩
/-- their rows are not one -/
def apartV (a b : Value) : Prop := a.ownBlock = none ∨ a.ownBlock ≠ b.ownBlock
theorem apartV.on {a a' b : Value} {n : Nat} (h : apartV a b) (e : a'.ownBlock = a.ownBlock ∨ a'.ownBlock = some n) (hb : ∀ k, b.ownBlock = some k → k < n) : apartV a' b := by
  rcases e with e | e
  · unfold apartV; rw [e]; exact h
  · refine .inr (fun e2 => ?_)
    rw [e] at e2
    have := hb n e2.symm
    omega
theorem apartV.symm {a b : Value} (h : apartV a b) : apartV b a := by
  unfold apartV at *
  rcases h with h | h
  · cases hb : b.ownBlock with
    | none => exact .inl rfl
    | some k => exact .inr (fun e => by rw [h] at e; cases e)
  · exact .inr (fun e => h e.symm)

/-- what is told, and what is to do -/
def OrdR (w1 : World) (l : List It) (ns : List Nd) (O : List I2) (N k : Nat) (vo vt _u : Value) (W : World) : Prop :=
  ∃ told todo, OwnO w1 W vo told ∧ OwnZ w1 W vt todo ∧ apartV vt vo ∧ Ext w1 W ∧ told ++ expA l ns todo = O ∧ okT l todo ∧ wtA l ns todo ≤ k ∧ k ≤ 2 * N

set_option maxRecDepth 100000 in
set_option maxHeartbeats 16000000 in
theorem orderG_any (g : Nat) (l : List It) (ns : List Nd) (w : World) (h : GrT w g l ns) (hb : l.length ≤ 5026338869800) :
    Calls Try.prog 19 #[.pointer (some ⟨g, 0, none⟩)] w (RetO w (wlk l ⟨(0, 0), true⟩)) := by
  obtain ⟨K, hK⟩ : ∃ K, l.length + 1 = K := ⟨_, rfl⟩
  obtain ⟨n, hn⟩ : ∃ n, l.length = n := ⟨_, rfl⟩
  obtain ⟨b, o, cap, g0, hcap, hN⟩ := h.cells
  rw [hK] at g0
  have hnb : n ≤ 5026338869800 := by omega
  have hok := Lib.hid h.ok
  have hkn := Lib.hid h.kn
  have hsid := Lib.hid (sides_any g l ns w h hb)
  rw [hK] at hsid
  have hKn := Lib.hid (show K = n + 1 by omega)
  have hNd := Lib.hid hN
  have hmk := fun W => make_ids (n : Int) n rfl (by omega) W
  have hsub : wrap64 ((K : Int) - 1) = (n : Int) := by rw [w64_in (by omega) (by omega)]; omega
  have hK1 : (0 : Int) < (K : Int) := by omega
  replace hn := Lib.hid hn
  clear hcap hN hK h
  obtain ⟨O, hO⟩ : ∃ O, wlk l ⟨(0, 0), true⟩ = O := ⟨_, rfl⟩
  have hOl := Lib.hid (show O.length = n by rw [← hO, ord_len hkn.out (wlk_ord hkn.out), hn.out])
  rw [hO]
  replace hO := Lib.hid hO
  go_enter Try.func19, Try.ntmps19
  go_wp2_with fail
  refine hsid.out.mono ?_
  rintro e w1 ⟨bl, br, V, L, B, rfl, hL, hS, x1⟩
  have q0 := x1.keep g0
  have x1' := Lib.hid x1
  replace hL := Lib.hid hL
  have er := hS.cell true (k := 0) (by have := hKn.out; omega)
  simp only [cond_true] at er
  replace hS := Lib.hid hS
  clear x1 hsid
  go_wp2_with fail
  obtain ⟨A0, c0, hv0, hc0, hz0⟩ := (hS.out.own true 0 (by have := hKn.out; omega)).open
  rw [hv0] at er ⊢
  have hKe : Hid ([] ++ expA l ns (zs (kidN ns L true 0)) = O) := Lib.hid (by
    rw [List.nil_append, expA_kids hok.out hkn.out hL.out (Nat.zero_le _), hok.out.id_zero, hO.out])
  have hKw : Hid (wtA l ns (zs (kidN ns L true 0)) ≤ 2 * n) := Lib.hid (by
    have h2 := hKe.out
    rw [List.nil_append] at h2
    rw [wtA_nat, h2, hOl.out]
    exact Nat.le_refl _)
  have hKo := Lib.hid (okT_kids (ns := ns) hL.out true 0)
  have hKl := wtA_len l ns (zs (kidN ns L true 0))
  have hKl2 : (zs (kidN ns L true 0)).length ≤ 17000000000000 := by have := hKw.out; omega
  have x2 := (Ext.refl w1).alloc (.cells (madeCells #[.int .u32 0, .int .u32 0] (n * 2)) 25)
  have hcl := Lib.hid (cloneZ_any A0 _ c0 (zs (kidN ns L true 0)) _ (hz0.ext x2) rfl hKl2)
  have o0 := OwnO.made w1 w1 n (Nat.le_refl _) (by omega)
  have hsz2 := Lib.hid (show (w1.alloc (.cells (madeCells #[.int .u32 0, .int .u32 0] (n * 2)) 25)).heap.size = w1.heap.size + 1 by simp)
  generalize w1.alloc (.cells (madeCells #[.int .u32 0, .int .u32 0] (n * 2)) 25) = w2 at *
  clear hKl hKl2 hz0 er q0
  refine hcl.out.mono ?_
  rintro e w3 ⟨vt, rfl, ot, x3⟩
  have hR0 := Lib.hid (show OrdR w1 l ns O n (2 * n) (.slice (some ⟨w1.heap.size, 0, none⟩) 0 n) vt undef w3 from
    ⟨[], _, o0.ext x3, ot.down x2, by
      cases hb : vt.ownBlock with
      | none => exact .inl hb
      | some k =>
        refine .inr (fun e => ?_)
        have := (ot.lt k hb).1
        rw [hb] at e
        injection e with e
        have := hsz2.out
        have e' : k = w1.heap.size := e
        omega, x2.trans x3, hKe.out, hKo.out, hKw.out, Nat.le_refl _⟩)
  clear hcl ot x3 x2 o0 hKe hKw hKo hc0 hv0
  go_wp2
  go_loopg [5, 6, 7] (2 * n) (fun k so st _ W => OrdR w1 l ns O n k so st undef W)
  case atStart => exact hR0.out
  case round =>
    clear hR0
    obtain ⟨told, todo, ho, ht, hap, hx, hinv, hokT, hwk, hk2⟩ := hrel
    rcases List.eq_nil_or_concat todo with rfl | ⟨init, t, rfl⟩
    · obtain ⟨A, c, rfl, _, _⟩ := ht.open
      have hfin := Lib.hid (show told = O by rw [← hinv]; simp [expA])
      have hxf := Lib.hid (x1'.out.trans hx)
      have of := Lib.hid (ho.down x1'.out)
      obtain ⟨Ao, co, rfl, _, _⟩ := ho.open
      simp only [List.length_nil] at *
      clear ht hap hx hinv hokT hwk hk2 ho
      go_wp2
      go_ret
      exact ⟨_, rfl, hfin.out ▸ of.out, hxf.out⟩
    · rw [List.concat_eq_append] at *
      obtain ⟨A, c, hvt, hct, hzt⟩ := ht.open
      rw [List.length_append, List.length_singleton] at hvt hct
      obtain ⟨N1, hN1⟩ : ∃ N1, init.length + 1 = N1 := ⟨_, rfl⟩
      rw [hN1] at hvt hct
      obtain ⟨bt, ott, hA, hcell⟩ := hzt.at (k := init.length) (z := t) (by simp)
      obtain ⟨ht0, hta⟩ := hokT t (by simp)
      have hcut := Lib.hid (OwnZ.cut (hvt ▸ ht) hN1.symm)
      have hbl : Hid ((Value.slice A init.length c).ownBlock = u6.ownBlock) := Lib.hid (by rw [hvt, hA]; rfl)
      have hlen := wtA_len l ns (init ++ [t])
      rw [List.length_append, List.length_singleton] at hlen
      obtain ⟨m, hm⟩ : ∃ m, init.length = m := ⟨_, rfl⟩
      rw [hm] at hcut hcell hN1 hlen hbl
      have hsubm : wrap64 ((N1 : Int) - 1) = (m : Int) := by rw [w64_in (by omega) (by omega)]; omega
      have hup := fun W => uptoZ A N1 c m (by omega) (m : Int) rfl W
      have hm1 : (0 : Int) ≤ (m : Int) := by omega
      have hm2 : (m : Int) < (N1 : Int) := by omega
      have hN0 : (0 : Int) < (N1 : Int) := by omega
      replace hap := Lib.hid hap
      replace ho := Lib.hid ho
      replace hm := Lib.hid hm
      replace hN1 := Lib.hid hN1
      subst hA
      subst hvt
      clear ht hzt hct
      by_cases hneg : t < 0
      · obtain ⟨tn, htn⟩ : ∃ tn : Nat, (-t).toNat = tn := ⟨_, rfl⟩
        have htn2 : t = -(tn : Int) := by omega
        have htl : tn ≤ n := by have := hn.out; omega
        have hexp : expT l ns t = [idN ns tn] := by unfold expT; rw [if_pos hneg, htn]
        have hwt : wtA l ns (init ++ [t]) = wtA l ns init + 1 := by
          rw [wtA_app]
          congr 1
          unfold wtA wt
          simp [hneg]
        obtain ⟨nd, hnd⟩ := hok.out.get (n := tn) (by rw [hn.out]; exact htl)
        rw [idN_of hnd] at hexp
        have hinv2 := Lib.hid (show (told ++ [nd.id]) ++ expA l ns init = O by rw [← hinv, expA_snoc, hexp]; simp)
        have hok2 := Lib.hid (show okT l init from fun x hx => hokT x (List.mem_append_left _ hx))
        have hwk2 : wtA l ns init < gk := by omega
        have hk3 := Lib.hid (show wtA l ns init ≤ 2 * n by omega)
        have htold : told.length < n := by
          have := congrArg List.length hinv2.out
          rw [hOl.out] at this
          simp at this
          omega
        obtain ⟨c0, c1, _⟩ := (hNd.out.ext (x1'.out.trans hx)).at hnd
        have q0 := (x1'.out.trans hx).keep g0
        have hi1 : (0 : Int) ≤ (tn : Int) := by omega
        have hi2 : (tn : Int) < (K : Int) := by have := hKn.out; omega
        have hnegt : decide (t < 0) = true := decide_eq_true hneg
        have hng : wrap64 (-t) = (tn : Int) := by rw [w64_in (by omega) (by omega)]; omega
        clear hnd hexp hwt hinv hokT hwk hk2 htn2 htn hta ht0 hlen
        obtain ⟨⟨ia, ib⟩, on, rr, dp, fr⟩ := nd
        simp only at hinv2 c0 c1
        replace hx := Lib.hid hx
        go_wp2_with (at_builtin; go_loud (refine wpList_append_O (w0 := w1) rfl (.tmp 40) (.tmp 50) rfl _ told rfl (ho.out.ext ((Ext.refl _).alloc _)) (hx.out.alloc _) _ 1 1 [(ia, ib)] rfl rfl (OdS.newAt (ia, ib) rfl) (by simp only [List.length_cons, List.length_nil]; omega) ?_; intro v4 w4 o4 x4 g4 b4))
        have hcut4 := Lib.hid ((hcut.out.ext ((Ext.refl _).alloc (.cells #[.int .u32 ia, .int .u32 ib] 25))).kept g4 (by
          have := hap.out
          unfold apartV at this
          rw [hbl.out]; exact this))
        have hap4 := Lib.hid (show apartV (.slice (some ⟨bt, ott, none⟩) m c) v4 from by
          have h1 : apartV u5 (.slice (some ⟨bt, ott, none⟩) m c) := by
            have := hap.out.symm
            unfold apartV at this ⊢
            rw [hbl.out]; exact this
          refine (apartV.on h1 b4 (fun k hk => ?_)).symm
          have := (hcut.out.lt k hk).2
          simp
          omega)
        have hrel4 := Lib.hid (show OrdR w1 l ns O n (wtA l ns init) v4 (.slice (some ⟨bt, ott, none⟩) m c) undef w4 from
          ⟨told ++ [(ia, ib)], init, o4, hcut4.out, hap4.out, x4, hinv2.out, hok2.out, Nat.le_refl _, hk3.out⟩)
        clear hcut4 hap4 o4 x4 g4 b4 hcell
        go_wp2
        go_roundg (wtA l ns init)
        case measure => exact hwk2
        case rel => exact hrel4.out
      · obtain ⟨tn, htn⟩ : ∃ tn : Nat, t.toNat = tn := ⟨_, rfl⟩
        have htn2 : t = (tn : Int) := by omega
        have htl : tn ≤ n := by have := hn.out; omega
        have htl' : tn ≤ l.length := by rw [hn.out]; exact htl
        have htn0 : 0 < tn := by omega
        subst htn2
        obtain ⟨e1, e2, e3⟩ := todo_step hok.out hkn.out hL.out htn0 htl' (todo := init) (fun x hx => hokT x (List.mem_append_left _ hx))
        have hinv2 := Lib.hid (show told ++ expA l ns (init ++ zs (kidN ns L true tn) ++ [-(tn : Int)] ++ zs (kidN ns L false tn)) = O by rw [e1, hinv])
        have hok2 := Lib.hid e3
        have hwk2 := Lib.hid (show wtA l ns (init ++ zs (kidN ns L true tn) ++ [-(tn : Int)] ++ zs (kidN ns L false tn)) < gk by omega)
        have hk3 := Lib.hid (show wtA l ns (init ++ zs (kidN ns L true tn) ++ [-(tn : Int)] ++ zs (kidN ns L false tn)) ≤ 2 * n by omega)
        have hl3 := wtA_len l ns (init ++ zs (kidN ns L true tn) ++ [-(tn : Int)] ++ zs (kidN ns L false tn))
        have hl4 : (init ++ zs (kidN ns L true tn) ++ [-(tn : Int)] ++ zs (kidN ns L false tn)).length ≤ 17000000000000 := by omega
        simp only [List.length_append, List.length_singleton] at hl4
        have htK : tn < K := by have := hKn.out; omega
        have hE := Lib.hid hx
        have er1 := hx.keep (hS.out.cell true htK)
        have er2 := hS.out.cell false htK
        simp only [cond_true, cond_false] at er1 er2
        obtain ⟨A1, c1, hv1, _, hz1⟩ := (hS.out.own true tn htK).open
        obtain ⟨A2, c2, hv2, _, hz2⟩ := (hS.out.own false tn htK).open
        rw [hv1] at er1
        rw [hv2] at er2
        have hz1' := Lib.hid hz1
        have hz2' := Lib.hid hz2
        have hi1 : (0 : Int) ≤ (tn : Int) := by omega
        have hi2 : (tn : Int) < (K : Int) := by omega
        have hnegt : decide ((tn : Int) < 0) = false := decide_eq_false hneg
        have hng : wrap64 (-(tn : Int)) = -(tn : Int) := w64_in (by omega) (by omega)
        obtain ⟨k1, hk1⟩ : ∃ k1, zs (kidN ns L true tn) = k1 := ⟨_, rfl⟩
        obtain ⟨k2, hk2'⟩ : ∃ k2, zs (kidN ns L false tn) = k2 := ⟨_, rfl⟩
        simp only [hk1, hk2'] at hinv2 hok2 hwk2 hk3 hl4 er1 er2 hz1' hz2'
        obtain ⟨n1, hn1⟩ : ∃ n1, k1.length = n1 := ⟨_, rfl⟩
        obtain ⟨n2, hn2⟩ : ∃ n2, k2.length = n2 := ⟨_, rfl⟩
        rw [hn1] at er1
        rw [hn2] at er2
        replace hn1 := Lib.hid hn1
        replace hn2 := Lib.hid hn2
        replace hl4 := Lib.hid hl4
        replace er2 := Lib.hid er2
        have h0 := Lib.hid (show apartV u5 (.slice (some ⟨bt, ott, none⟩) m c) from by
          have := hap.out.symm
          unfold apartV at this ⊢
          rw [hbl.out]; exact this)
        have hl5 := Lib.hid (show init.length + k1.length ≤ 17000000000000 by have := hl4.out; omega)
        have hl6 := Lib.hid (show (init ++ k1).length + [-(tn : Int)].length ≤ 17000000000000 by have := hl4.out; rw [List.length_append, List.length_singleton]; omega)
        have hl7 := Lib.hid (show (init ++ k1 ++ [-(tn : Int)]).length + k2.length ≤ 17000000000000 by have := hl4.out; rw [List.length_append, List.length_append, List.length_singleton]; omega)
        clear e1 e2 e3 hinv hokT hwk hk2 htn hta ht0 hlen hl3 hz1 hz2 hv1 hv2 hk1 hk2' htl htl' hl4
        go_wp2_with (at_builtin; first
          | (refine wpList_append_Z (w0 := w1) rfl (.tmp 52) (.tmp 56) rfl _ init rfl hcut.out hE.out.size _ n1 c1 k1 rfl hn1.out (hz1'.out.ext hE.out) hl5.out ?_; intro v4 w4 o4 g4 b4; replace o4 := Lib.hid o4; replace g4 := Lib.hid g4; replace b4 := Lib.hid b4; have x4 := Lib.hid (hE.out.grown g4.out (fun k hk => (hcut.out.lt k hk).1)))
          | (refine wpList_append_Z (w0 := w1) rfl (.tmp 58) (.tmp 61) rfl _ (init ++ k1) rfl (o4.out.ext ((Ext.refl _).alloc _)) (x4.out.alloc _).size _ 1 1 [-(tn : Int)] rfl rfl (ZS.new _ _) hl6.out ?_; intro v5 w5 o5 g5 b5; replace o5 := Lib.hid o5; replace g5 := Lib.hid g5; replace b5 := Lib.hid b5; have x5 := Lib.hid ((x4.out.alloc _).grown g5.out (fun k hk => (o4.out.lt k hk).1)); have er3 := x5.out.keep er2.out)
          | (refine wpList_append_Z (w0 := w1) rfl (.tmp 63) (.tmp 67) rfl _ (init ++ k1 ++ [-(tn : Int)]) rfl o5.out x5.out.size _ n2 c2 k2 rfl hn2.out (hz2'.out.ext x5.out) hl7.out ?_; intro v6 w6 o6 g6 b6; replace o6 := Lib.hid o6; replace g6 := Lib.hid g6; replace b6 := Lib.hid b6; have x6 := Lib.hid (x5.out.grown g6.out (fun k hk => (o5.out.lt k hk).1))))
        have ho4 := ho.out.kept g4.out h0.out
        have h4 : apartV v4 u5 := apartV.on h0.out.symm b4.out (fun k hk => (ho.out.lt k hk).2)
        have ho4' := ho4.ext ((Ext.refl _).alloc (.cells #[.int .i64 (-(tn : Int))] 3))
        have ho5 := ho4'.kept g5.out h4.symm
        have h5 : apartV v5 u5 := apartV.on h4 b5.out (fun k hk => (ho4'.lt k hk).2)
        have ho6 := ho5.kept g6.out h5.symm
        have h6 : apartV v6 u5 := apartV.on h5 b6.out (fun k hk => (ho5.lt k hk).2)
        have hrel6 := Lib.hid (show OrdR w1 l ns O n (wtA l ns (init ++ k1 ++ [-(tn : Int)] ++ k2)) u5 v6 undef w6 from
          ⟨told, init ++ k1 ++ [-(tn : Int)] ++ k2, ho6, o6.out, h6, x6.out, hinv2.out, hok2.out, Nat.le_refl _, hk3.out⟩)
        clear ho4 h4 ho4' ho5 h5 ho6 h6 g4 b4 g5 b5 g6 b6 o4 o5 o6 x4 x5 x6 er3 er1 hcell
        go_wp2
        go_roundg (wtA l ns (init ++ k1 ++ [-(tn : Int)] ++ k2))
        case measure => exact hwk2.out
        case rel => exact hrel6.out

end Go.Proofs.Ytnocdfmmhnnbeaa

namespace Go.Proofs.Ytnocdfmmhnnbeaa
open Go.ChangeShapes Go.WideShapes Go.ChangeAt Go.RowKit Go.Sort
set_option linter.unusedVariables false
set_option linter.unusedSimpArgs false
attribute [local go_sem] World.cell?_alloc_some

theorem known_tr (A : Option Addr) (n cap : Nat) (l : List It) (w : World) (hv : ItS w A l) (hn : l.length = n) (hcp : n ≤ cap) (hb : n ≤ 1000000000000000) :
    Calls Try.prog 12 #[.slice A n cap] w fun e w' => e = .returned (.bool (knownI l)) ∧ Ext w w' := known_big A n cap l w hv hn hcp hb
set_option maxRecDepth 100000 in
set_option maxHeartbeats 4000000 in
theorem order_tr (A : Option Addr) (n cap : Nat) (l : List It) (w : World) (hv : ItS w A l) (hk : knownI l = true) (hn : l.length = n) (hcp : n ≤ cap) (hb : n ≤ 5026338869800) :
    Calls Try.prog 10 #[.slice A n cap] w (RetO w (ordW l)) := by
  have hc := Lib.hid (grow_any A n cap l w hv hk hn hcp hb)
  have ho := Lib.hid (fun (g : Nat) (ns : List Nd) (W : World) (h : GrT W g l ns) => orderG_any g l ns W h (by rw [hn]; exact hb))
  have he : wlk l ⟨(0, 0), true⟩ = ordW l := rfl
  rw [he] at ho
  generalize ordW l = O at *
  clear hn he
  go_enter Try.func10, Try.ntmps10
  go_wp2_with fail
  refine hc.out.mono ?_
  rintro e w1 ⟨g, b, c, mb, ns, rfl, h1, x1⟩
  have hT := h1.read.nodes
  clear h1
  go_wp2_with fail
  refine (ho.out g ns w1 hT).mono ?_
  rintro e w2 ⟨v, rfl, o2, x2⟩
  replace o2 := Lib.hid o2
  go_wp2
  go_ret
  exact ⟨v, rfl, o2.out.down x1, x1.trans x2⟩
end Go.Proofs.Ytnocdfmmhnnbeaa

namespace Go.Proofs.Ytnocdfmmhnnbeaa
open Go.ChangeShapes Go.WideShapes Go.ChangeAt Go.RowKit Go.Sort
set_option linter.unusedVariables false
set_option linter.unusedSimpArgs false
attribute [local go_sem] World.cell?_alloc_some

theorem ItS.newN {W : World} {s : Nat} (cs : Array Value) (l : List It) (hl : cs.toList = flat encI l) (h : W.heap.size = s) : ItS (W.alloc (.cells cs 27)) (some ⟨s, 0, none⟩) l := by
  unfold ItS
  rw [← hl, ← h]
  exact Row.new W cs 27
theorem OdS.newN {W : World} {s : Nat} (cs : Array Value) (l : List I2) (hl : cs.toList = flat encO l) (h : W.heap.size = s) : OdS (W.alloc (.cells cs 25)) (some ⟨s, 0, none⟩) l := by
  unfold OdS
  rw [← hl, ← h]
  exact Row.new W cs 25
def l8 : List It := [⟨1, 0, 0, 0, 0, 0, 0⟩, ⟨1, 1, 1, 0, 0, 0, 0⟩, ⟨2, 0, 1, 0, 1, 1, 0⟩]
def l8b : List It := [⟨1, 0, 1, 1, 0, 0, 0⟩]
theorem ord8 : ordW l8 = [(1, 0), (2, 0), (1, 1)] := by decide +kernel
theorem kn8 : knownI l8 = true := by decide +kernel
theorem kn8b : knownI l8b = false := by decide +kernel

set_option maxRecDepth 100000 in
set_option maxHeartbeats 4000000 in
theorem up8_any (w : World) : Calls Try.prog 6 #[] w fun e w' => e = .returned (.bool true) ∧ Ext w w' := by
  go_enter Try.func6, Try.ntmps6
  go_wp2_with fail
  refine (order_tr _ 3 3 l8 _ (ItS.newN _ l8 rfl (by simp)) kn8 rfl (by omega) (by omega)).mono ?_
  rintro e w1 ⟨v, rfl, o1, x1⟩
  rw [ord8] at o1
  obtain ⟨A1, c1, rfl, _, hO1⟩ := o1.open
  have xw := Ext.trans (((((Ext.refl w).alloc _).alloc _).alloc _).alloc _) x1
  have a0 := x1.keep (p := ⟨w.heap.size, 0, none⟩) (v := Vu 1) (by simp [go_sem])
  have a1 := x1.keep (p := ⟨w.heap.size, 1, none⟩) (v := Vu 0) (by simp [go_sem])
  have b0 := x1.keep (p := ⟨w.heap.size + 1, 0, none⟩) (v := Vu 1) (by simp [go_sem])
  have b1 := x1.keep (p := ⟨w.heap.size + 1, 1, none⟩) (v := Vu 1) (by simp [go_sem])
  have c0 := x1.keep (p := ⟨w.heap.size + 2, 0, none⟩) (v := Vu 2) (by simp [go_sem])
  have d1 := x1.keep (p := ⟨w.heap.size + 2, 1, none⟩) (v := Vu 0) (by simp [go_sem])
  clear x1 o1
  generalize w.heap.size = pa at *
  have xa : Ext w1 (w1.alloc (.cells #[.int .u32 1, .int .u32 0, .int .u32 2, .int .u32 0, .int .u32 1, .int .u32 1] 25)) := (Ext.refl _).alloc _
  have hO2 : OdS (w1.alloc (.cells #[.int .u32 1, .int .u32 0, .int .u32 2, .int .u32 0, .int .u32 1, .int .u32 1] 25)) (some ⟨w1.heap.size, 0, none⟩) [(1, 0), (2, 0), (1, 1)] := OdS.newN _ _ rfl rfl
  go_wp2_with fail
  refine (sameO_ref A1 _ 3 3 c1 3 _ [(1, 0), (2, 0), (1, 1)] _ (hO1.ext xa) hO2 rfl rfl (by omega) (by omega)).mono ?_
  rintro e w2 ⟨rfl, x2⟩
  rw [show decide ([((1 : Int), (0 : Int)), (2, 0), (1, 1)] = [(1, 0), (2, 0), (1, 1)]) = true by decide]
  replace x2 := xa.trans x2
  replace a0 := x2.keep a0
  replace a1 := x2.keep a1
  replace b0 := x2.keep b0
  replace b1 := x2.keep b1
  replace xw := xw.trans x2
  clear x2 xa hO1 hO2 c0 d1
  go_wp2_with fail
  refine (known_tr none 0 0 [] _ (ItS.nil _ _) rfl (by omega) (by omega)).mono ?_
  rintro e w3 ⟨rfl, x3⟩
  rw [show knownI [] = true from rfl]
  replace a0 := x3.keep a0
  replace a1 := x3.keep a1
  replace b0 := x3.keep b0
  replace b1 := x3.keep b1
  replace xw := xw.trans x3
  clear x3
  go_wp2_with fail
  refine (known_tr _ 1 1 l8b _ (ItS.newN _ l8b rfl (by simp)) rfl (by omega) (by omega)).mono ?_
  rintro e w4 ⟨rfl, x4⟩
  rw [kn8b]
  go_wp2
  go_ret
  exact ⟨rfl, (xw.alloc _).trans x4⟩

end Go.Proofs.Ytnocdfmmhnnbeaa

namespace Go.Proofs.Ytnocdfmmhnnbeaa
open Go.ChangeShapes Go.WideShapes Go.ChangeAt Go.RowKit Go.Sort
set_option linter.unusedVariables false
set_option linter.unusedSimpArgs false
attribute [local go_sem] World.cell?_alloc_some
attribute [local go_sem ↓] id_eql

def okB (c : Int) : Bool := decide (0 ≤ c ∧ c ≤ 1114111 ∧ (c < 55296 ∨ 57343 < c))
theorem validRef_any (c : Int) (w : World) : Calls Try.prog 17 #[.int .i32 c] w fun e w' => e = .returned (.bool (okB c)) ∧ w = w' := by
  go_enter Try.func17, Try.ntmps17
  go_wp2
  all_goals go_ret
  all_goals refine ⟨ret_bool ?_, rfl⟩
  all_goals (rw [Bool.eq_iff_iff]; simp [okB]; try omega)

theorem aft_no {x : It} (h : x.c = 0 ∨ 4294967294 < x.k + 1) : ∃ e : Int, (e = 1 ∨ e = 4) ∧ aftId x.c x.k 1 4294967294 = (0, 0, e) := by
  unfold aftId
  by_cases h0 : x.c = 0
  · exact ⟨1, .inl rfl, by rw [if_pos (by omega)]⟩
  · exact ⟨4, .inr rfl, by rw [if_neg (by omega), if_pos (by omega)]⟩
theorem aft_yes {x : It} (h : x.c ≠ 0) (h1 : x.k + 1 ≤ 4294967294) : aftId x.c x.k 1 4294967294 = (x.c, x.k + 1, 0) := by
  unfold aftId
  rw [if_neg (by omega), if_neg (by omega)]
theorem on_no {x y : It} (h : x.c = 0 ∨ 4294967294 < x.k + 1) : onI x y = false := by unfold onI; rw [decide_eq_false_iff_not]; omega
theorem on_yes {x y : It} (h : x.c ≠ 0) (h1 : x.k + 1 ≤ 4294967294) : onI x y = (idEq y.c y.k x.c (x.k + 1) && idEq y.lc y.lk x.c x.k && idEq y.rc y.rk x.rc x.rk) := by
  unfold onI idEq
  rw [Bool.eq_iff_iff]
  simp
  omega

end Go.Proofs.Ytnocdfmmhnnbeaa
