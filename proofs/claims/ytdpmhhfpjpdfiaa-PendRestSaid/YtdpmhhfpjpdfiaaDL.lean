/-
  Several texts of this seat in one file, each in the namespace again; no claim stands here.
-/
import Derived.Test.YtdpmhhfpjpdfiaaRows
import Derived.WalkKit
import Derived.ProofKit
import Derived.OpenShut
import Derived.Lib.SmallJoins
import Derived.Lib.Hide
import Derived.Lib.QuietBelow
import Derived.BigQuiet
import Derived.LaidEql
import Derived.Deep.RegionHeld
import Derived.Sort.LotA
import Derived.Sort.LotB
import Derived.Shelf.GgSortFunc.SW
import Derived.Sort.WalkA
import Derived.Sort.WalkB2
import Derived.Sort.WalkC4
import Derived.Sort.LotD3
import Derived.CellFam
import Derived.Deep.LoopGhost
import Derived.Deep.DeepCutAuto
import Derived.Deep.CutBlock
import Derived.Maps.AppendAt
import Derived.Deep.AppendLies
import Derived.OwnWalk
import Derived.Laws.OwnMore
import Derived.Laws.MakeOwn
import Derived.Laws.IdiomStrings
import Derived.Lib.AppendStr
import Derived.Lib.BufferRead
import Derived.Deep.QuietTactic
import Derived.RegionTactic
import Derived.IntWalk
import Derived.Maps.OwnOps
import Derived.Test.YtdpmhhfpjpdfiaaWMath
import Derived.Test.YtdpmhhfpjpdfiaaNMath
import Derived.Test.YtdpmhhfpjpdfiaaTWalk
import Derived.Test.YtdpmhhfpjpdfiaaUMth
namespace Go.Proofs.Ytdpmhhfpjpdfiaa
open Go.ChangeShapes Go.WideShapes Go.ChangeAt Go.RowKit Go.Sort
set_option linter.unusedVariables false
set_option linter.unusedSimpArgs false

def Ext (w w' : World) : Prop := Below w.heap.size w w'

theorem Ext.refl (w : World) : Ext w w := Below.refl _ _
theorem Ext.size {a b : World} (h : Ext a b) : a.heap.size ≤ b.heap.size := RowKit.Below.size h
theorem Ext.trans {a b c : World} (h : Ext a b) (k : Ext b c) : Ext a c := Below.trans h (Below.mono k h.size)
theorem Ext.alloc {a w : World} (h : Ext a w) (o : Obj) : Ext a (w.alloc o) := Below.alloc h h.size o
theorem Ext.drew {a w : World} (h : Ext a w) : Ext a w.drew := Below.drew h
theorem Ext.drewN {a w : World} (h : Ext a w) (n : Nat) : Ext a (w.drewN n) := ⟨RowKit.Below.os (w' := w) h, RowKit.Below.tape (w' := w) h, RowKit.Below.output (w' := w) h, RowKit.Below.size (w' := w) h, RowKit.Below.block (w' := w) h⟩
theorem Ext.setCell {a w : World} (h : Ext a w) {p : Addr} (hp : a.heap.size ≤ p.block) (u : Value) : Ext a (w.setCell p u) := Below.setCell h hp u
theorem Ext.cells {W w1 : World} (hb : Ext W w1) : (∀ b o, b < W.heap.size → w1.cell? ⟨b, o, none⟩ = W.cell? ⟨b, o, none⟩) ∧ (∀ b o, b < W.heap.size → w1.frozen? ⟨b, o, none⟩ = W.frozen? ⟨b, o, none⟩) :=
  ⟨fun b o h => RowKit.Below.cell (p := ⟨b, o, none⟩) hb h, fun b o h => RowKit.Below.frozen (p := ⟨b, o, none⟩) hb h⟩

theorem Ext.keep {W w1 : World} (h : Ext W w1) {p : Addr} {v : Value} (hc : W.cell? p = some v) : w1.cell? p = some v := by
  rw [RowKit.Below.cell h (World.block_lt_of_cell? W p hc)]; exact hc
theorem Ext.thaw {W w1 : World} (h : Ext W w1) {p : Addr} {v : Value} (hc : W.cell? p = some v) (hf : W.frozen? p = false) : w1.frozen? p = false := by
  rw [RowKit.Below.frozen h (World.block_lt_of_cell? W p hc)]; exact hf
theorem Ext.lt {W w1 : World} (h : Ext W w1) {n : Nat} (hn : n < W.heap.size) : n < w1.heap.size := Nat.lt_of_lt_of_le hn h.size

theorem Calls.in_regrown {P : Program} {f : FuncId} {args : Array Value} {w : World} {d : Nat} {os : Array Obj} {v : Value}
    (h : Calls P f args (grow (redrawn w d) os) fun e w' => e = .returned v ∧ Ext (grow (redrawn w d) os) w') : Calls P f args (grow (redrawn w d) os) fun e w'' => e = .returned v ∧ ∃ p : Regrown, w'' = grow (redrawn w p.d) p.os := Calls.regrown_of h
theorem Calls.same_regrown {P : Program} {f : FuncId} {args : Array Value} {w : World} {d : Nat} {os : Array Obj} {v : Value}
    (h : Calls P f args (grow (redrawn w d) os) fun e w' => e = .returned v ∧ grow (redrawn w d) os = w') : Calls P f args (grow (redrawn w d) os) fun e w'' => e = .returned v ∧ ∃ p : Regrown, w'' = grow (redrawn w p.d) p.os :=
  Calls.in_regrown (h.mono fun e w' hh => ⟨hh.1, by rw [← hh.2]; exact Ext.refl _⟩)
theorem Ext.regrown (w : World) (d : Nat) (os : Array Obj) : Ext w (grow (redrawn w d) os) := below_regrown w d os

abbrev Vu (n : Int) : Value := .int .u32 n
abbrev Vi (n : Int) : Value := .int .i64 n
abbrev idv (a b : Int) : Value := .agg #[.int .u32 a, .int .u32 b]
theorem ret_i64 {a b : Int} (h : a = b) : Ending.returned (.int .i64 a) = .returned (.int .i64 b) := by rw [h]
theorem ret_u32 {a b : Int} (h : a = b) : Ending.returned (.int .u32 a) = .returned (.int .u32 b) := by rw [h]
theorem ret_bool {a b : Bool} (h : a = b) : Ending.returned (.bool a) = .returned (.bool b) := by rw [h]
theorem ret_ib {a a' : Int} {b b' : Bool} (h : a = a') (g : b = b') : Ending.returned (.tuple #[.int .i64 a, .bool b]) = .returned (.tuple #[.int .i64 a', .bool b']) := by rw [h, g]

theorem reads_on {H : Type} {enc : TypeId × Value → H} {P : Program} (hl : laidOutB P = true) {W W' : World} (hx : Ext W W') : ∀ (ts : List TypeId) (vs : List Value) (ds : List (DataW H)) (ps : List MemPlace),
    (∀ t ∈ ts, P.readableRec t = true ∧ t < P.types.size) → DataW.TrodAll enc P W 0 (fun _ => true) true ts vs ds ps → (∀ x ∈ ps, x.block < W.heap.size) → DataW.TrodAll enc P W' 0 (fun b => decide (b < W.heap.size)) true ts vs ds ps := by
  intro ts
  induction ts with
  | nil => intro vs ds ps _ h _; cases vs <;> cases ds <;> first | exact h | exact h.elim
  | cons t ts ih =>
    intro vs ds ps ht h hp
    cases vs with
    | nil => exact h.elim
    | cons v vs =>
      cases ds with
      | nil => exact h.elim
      | cons d ds =>
        obtain ⟨p, q, h1, h2, rfl⟩ := h
        have t1 := ht t (List.mem_cons_self ..)
        exact ⟨p, q, RowKit.Below.trod hl t1.1 t1.2 h1 hx (fun x hx' => hp x (List.mem_append_left _ hx')), ih vs ds q (fun t' ht' => ht t' (List.mem_cons_of_mem _ ht')) h2 (fun x hx' => hp x (List.mem_append_right _ hx')), rfl⟩

theorem law_post {H : Type} {enc : TypeId × Value → H} {P : Program} {f : Func} {s : ChangeSpec} {W W' : World} {args : Array Value} {ds gs : List (DataW H)} {before : List MemPlace} {tb : TypeId}
    (hW : DataW.Whole enc P f.params.toList s.vars false W args.toList ds gs before) (hl : laidOutB P = true) (hts : ∀ t ∈ f.params.toList, P.readableRec t = true ∧ t < P.types.size)
    (hvars : s.vars = []) (hr : (s.fn H (ds ++ gs)).results = [.lit (.bool true)]) (ha : (s.fn H (ds ++ gs)).args = ds) (hv : (s.fn H (ds ++ gs)).vars = []) (hx : Ext W W')
    (hres : f.resultTypes = #[tb]) (hb : P.underlying tb = some .bool) : s.post enc P f false true false false W args (.bool true) W' := by
  have hlt : ∀ p ∈ before, p.block < W.heap.size := fun p hp => hW.lt p hp
  have hW' := hW
  obtain ⟨p, q, hA, hV, hpq, _, _⟩ := hW
  have hq : q = [] := by
    rw [hvars] at hV
    cases gs with
    | nil => exact hV
    | cons g gs => exact hV.elim
  subst hq
  rw [List.append_nil] at hpq
  subst hpq
  refine ⟨ds, gs, before, [], before, [], hW', ?_, ?_, ?_, ?_, fun h => by cases h⟩
  · rw [hr, hres]; exact trodAll_mk1 (shut_bool hb true)
  · rw [ha]; exact reads_on hl hx _ _ _ _ hts hA hlt
  · rw [hv, hvars]; rfl
  · exact World.keptBut_mono (fun p hp => ⟨hp, .inr (.inl hp)⟩) (RowKit.Below.frame hx (· ∈ before))

theorem own : ownKnob Try.prog.godebug = Option.none := by kernel_rfl
theorem laid : laidOutB Try.prog = true := by kernel_rfl

theorem bounds_u32 {a : Int} (h : (Lit.int .u32 a).wf = true) : 0 ≤ a ∧ a ≤ 4294967295 := by
  simpa [Lit.wf, IntKind.min, IntKind.max, IntKind.signed, IntKind.bits] using h
end Go.Proofs.Ytdpmhhfpjpdfiaa

namespace Go.Proofs.Ytdpmhhfpjpdfiaa
open Go.Sort
set_option linter.unusedVariables false
set_option linter.unusedSimpArgs false

def gtI (x y : Int) : Bool := decide (y < x)
theorem gtI_swo : SWO gtI where
  irrefl x := by simp [gtI]
  trans x y z h1 h2 := by simp [gtI] at *; omega
  ntrans x y z h1 h2 := by simp [gtI] at *; omega

def HeapA (n : Nat) (d : Array Int) : Prop := ∀ k, 0 < k → k < n → d[(k - 1) / 2]! ≤ d[k]!
theorem heap_ok {n : Nat} {d : Array Int} : HeapA n d ↔ ∀ i, i < n → Ok gtI 0 n d i := by
  constructor
  · intro h i hi k hk hkn
    have := h k (by omega) hkn
    rw [show (k - 1) / 2 = i by omega] at this
    simp only [Nat.zero_add, gtI, decide_eq_false_iff_not]
    omega
  · intro h k h0 hk
    have := h ((k - 1) / 2) (by omega) k (by omega) hk
    simp only [Nat.zero_add, gtI, decide_eq_false_iff_not] at this
    omega
theorem heap_least {n : Nat} {d : Array Int} (h : HeapA n d) {i : Nat} (hi : i < n) : d[0]! ≤ d[i]! := by
  have := root_max gtI_swo (heap_ok.1 h) i i (Nat.le_refl _) hi
  simp only [Nat.zero_add, gtI, decide_eq_false_iff_not] at this
  omega

def upA (j : Nat) (d : Array Int) : Array Int :=
  if h : 0 < j ∧ d[j]! < d[(j - 1) / 2]! then upA ((j - 1) / 2) (swp d ((j - 1) / 2) j) else d
termination_by j
decreasing_by omega
theorem upA_go {j : Nat} {d : Array Int} (h0 : 0 < j) (h : d[j]! < d[(j - 1) / 2]!) : upA j d = upA ((j - 1) / 2) (swp d ((j - 1) / 2) j) := by rw [upA, dif_pos ⟨h0, h⟩]
theorem upA_end {j : Nat} {d : Array Int} (h : j = 0 ∨ ¬ d[j]! < d[(j - 1) / 2]!) : upA j d = d := by
  rw [upA, dif_neg]
  rintro ⟨h0, h1⟩
  rcases h with h | h
  · omega
  · exact h h1
theorem upA_size (j : Nat) : ∀ d : Array Int, (upA j d).size = d.size := by
  induction j using Nat.strongRecOn with
  | _ j ih =>
    intro d
    rw [upA]
    split
    · rename_i h
      rw [ih _ (by omega), size_swp]
    · rfl
theorem up_heap (n : Nat) (j : Nat) : ∀ d : Array Int, d.size = n → j < n → (∀ k, 0 < k → k < n → k ≠ j → d[(k - 1) / 2]! ≤ d[k]!) → (∀ c, 0 < j → (c = 2 * j + 1 ∨ c = 2 * j + 2) → c < n → d[(j - 1) / 2]! ≤ d[c]!) →
    HeapA n (upA j d) ∧ PermIn 0 n d (upA j d) := by
  induction j using Nat.strongRecOn with
  | _ j ih =>
    intro d hd hj P1 P2
    by_cases h0 : 0 < j
    · by_cases hl : d[j]! < d[(j - 1) / 2]!
      · rw [upA_go h0 hl]
        obtain ⟨i, hi⟩ : ∃ i, i = (j - 1) / 2 := ⟨_, rfl⟩
        have hij : i < j := by omega
        rw [← hi] at hl ⊢
        have gi : (swp d i j)[i]! = d[j]! := swp_left d _ _ (by omega) (by omega)
        have gj : (swp d i j)[j]! = d[i]! := swp_right d _ _ (by omega)
        have go : ∀ k, k ≠ i → k ≠ j → (swp d i j)[k]! = d[k]! := fun k h1 h2 => swp_other d _ _ _ h1 h2
        obtain ⟨r1, r2⟩ := ih i hij (swp d i j) (by rw [size_swp]; exact hd) (by omega)
          (fun k k0 kn ki => by
            by_cases kj : k = j
            · subst kj
              rw [← hi, gi, gj]; omega
            · rw [go k ki kj]
              by_cases pj : (k - 1) / 2 = j
              · rw [pj, gj]
                have := P2 k h0 (by omega) kn
                rw [← hi] at this
                exact this
              · by_cases pi : (k - 1) / 2 = i
                · rw [pi, gi]
                  have := P1 k k0 kn kj
                  rw [pi] at this
                  omega
                · rw [go _ pi pj]
                  exact P1 k k0 kn kj)
          (fun c i0 hc cn => by
            have hp : (i - 1) / 2 ≠ i ∧ (i - 1) / 2 ≠ j := by omega
            rw [go _ hp.1 hp.2]
            have h1 := P1 i i0 (by omega) (by omega)
            by_cases cj : c = j
            · subst cj
              rw [gj]; exact h1
            · rw [go c (by omega) cj]
              have h2 := P1 c (by omega) cn cj
              rw [show (c - 1) / 2 = i by omega] at h2
              omega)
        exact ⟨r1, permIn_trans _ _ _ 0 n (swp_permIn d 0 n i j (by omega) (by omega) (by omega) (by omega) (by omega)) r2⟩
      · rw [upA_end (.inr hl)]
        refine ⟨fun k k0 kn => ?_, permIn_refl _ _ _⟩
        by_cases kj : k = j
        · subst kj; omega
        · exact P1 k k0 kn kj
    · rw [upA_end (.inl (by omega))]
      exact ⟨fun k k0 kn => P1 k k0 kn (by omega), permIn_refl _ _ _⟩

theorem perm_all {n : Nat} {d e : Array Int} (hd : d.size = n) (h : PermIn 0 n d e) : e.toList.Perm d.toList := by
  have h1 := h.2.2
  have h2 : e.size = n := h.1.trans hd
  have e1 : e.extract 0 n = e := by rw [← h2]; exact Array.extract_size
  have e2 : d.extract 0 n = d := by rw [← hd]; exact Array.extract_size
  rwa [e1, e2] at h1

theorem get_push (d : Array Int) (x : Int) (k : Nat) (hk : k < d.size) : (d.push x)[k]! = d[k]! := by
  rw [getElem!_pos _ k (by simp; omega), getElem!_pos d k hk, Array.getElem_push_lt hk]
theorem push_heap {d : Array Int} (h : HeapA d.size d) (x : Int) : HeapA (d.size + 1) (upA d.size (d.push x)) ∧ (upA d.size (d.push x)).toList.Perm (d.toList ++ [x]) := by
  have hs : (d.push x).size = d.size + 1 := by simp
  obtain ⟨r1, r2⟩ := up_heap (d.size + 1) d.size (d.push x) hs (by omega)
    (fun k k0 kn kj => by rw [get_push d x k (by omega), get_push d x _ (by omega)]; exact h k k0 (by omega))
    (fun c _ hc cn => by omega)
  refine ⟨r1, ?_⟩
  have := perm_all hs r2
  simpa using this

def popA (d : Array Int) : Array Int := siftDown gtI (d.size - 1) 0 0 (swp d 0 (d.size - 1))
theorem pop_heap {d : Array Int} {n : Nat} (hd : d.size = n + 1) (h : HeapA (n + 1) d) :
    (popA d).size = n + 1 ∧ (popA d)[n]! = d[0]! ∧ HeapA n (popA d) ∧ (popA d).toList.Perm d.toList := by
  unfold popA
  rw [hd, show n + 1 - 1 = n by omega]
  have hok := heap_ok.1 h
  have go : ∀ k, k ≠ 0 → k ≠ n → (swp d 0 n)[k]! = d[k]! := fun k h1 h2 => swp_other d _ _ _ h1 h2
  have gn : (swp d 0 n)[n]! = d[0]! := swp_right d _ _ (by omega)
  obtain ⟨R1, R2⟩ := sift gtI_swo n 0 0 n 0 (swp d 0 n) (by omega) (by rw [size_swp]; omega) (Nat.le_refl _)
    (fun i _ h2 h3 kk hkk hkkh => by
      rw [show 0 + i = i by omega, show 0 + kk = kk by omega, go i h3 (by omega), go kk (by omega) (by omega)]
      have := hok i (by omega) kk hkk (by omega)
      simpa using this)
    (fun p _ hp => by omega)
  have hs : (siftDown gtI n 0 0 (swp d 0 n)).size = n + 1 := by rw [R2.1, size_swp]; exact hd
  refine ⟨hs, ?_, heap_ok.2 fun i hi => R1 i (Nat.zero_le _) hi, ?_⟩
  · rw [R2.2.1 n (.inr (by omega)), gn]
  · have p1 := perm_all (n := n + 1) (by rw [size_swp]; exact hd) (permIn_mono _ _ 0 (0 + n) 0 (n + 1) (by omega) (by omega) (by rw [size_swp]; omega) R2)
    exact p1.trans (perm_all hd (swp_permIn d 0 (n + 1) 0 n (by omega) (by omega) (by omega) (by omega) (by omega)))

end Go.Proofs.Ytdpmhhfpjpdfiaa

namespace Go.Proofs.Ytdpmhhfpjpdfiaa
open Go.ChangeShapes Go.WideShapes Go.ChangeAt Go.RowKit Go.Sort
set_option linter.unusedVariables false
set_option linter.unusedSimpArgs false

def SWu (w0 : World) (blk off N : Nat) (dk : Array Int) (W : World) : Prop := SW Vu w0 blk off dk W ∧ dk.size = N
structure RoU (w0 : World) (blk off N : Nat) : Prop where
  d0 : ∃ d : Array Int, Holds Vu w0 blk off d ∧ d.size = N
  lt : blk < w0.heap.size
theorem RoU.holds {w0 W : World} {blk off N : Nat} {dk : Array Int} (R : RoU w0 blk off N) (S : SWu w0 blk off N dk W) : Holds Vu W blk off dk := by
  obtain ⟨d, hd, hn⟩ := R.d0
  exact S.1.holds R.lt hd (S.2.trans hn.symm)
theorem RoU.fam {w0 W : World} {blk off N : Nat} {dk : Array Int} (R : RoU w0 blk off N) (S : SWu w0 blk off N dk W) :
    ∃ G : Nat → Int, Hid (∀ t, G t = dk[t]!) ∧ (∀ t, t < N → W.cell? ⟨blk, off + t, none⟩ = some (.int .u32 (G t))) ∧ (∀ t, t < N → W.frozen? ⟨blk, off + t, none⟩ = false) := by
  have hH := R.holds S
  have hs := S.2
  exact ⟨fun t => dk[t]!, fun _ => rfl, fun t ht => (hH t (by omega)).1, fun t ht => (hH t (by omega)).2⟩
theorem SWu.drewN {w0 W : World} {blk off N : Nat} {dk : Array Int} (S : SWu w0 blk off N dk W) (q : Nat) : SWu w0 blk off N dk (W.drewN q) := ⟨S.1.drewN q, S.2⟩
theorem SWu.swap {w0 W : World} {blk off N : Nat} {dk : Array Int} (R : RoU w0 blk off N) (S : SWu w0 blk off N dk W) {G : Nat → Int} (hG : Hid (∀ t, G t = dk[t]!)) (i j : Nat) (hi : i < N) (hj : j < N) :
    SWu w0 blk off N (swp dk i j) ((W.setCell ⟨blk, off + i, none⟩ (.int .u32 (G j))).setCell ⟨blk, off + j, none⟩ (.int .u32 (G i))) := by
  rw [hG.out, hG.out]
  exact ⟨S.1.swap R.lt i j (by rw [S.2]; exact hi) (by rw [S.2]; exact hj), by rw [size_swp]; exact S.2⟩
theorem SWu.swapd {w0 W : World} {blk off N : Nat} {dk : Array Int} (R : RoU w0 blk off N) (S : SWu w0 blk off N dk W) {G : Nat → Int} (hG : Hid (∀ t, G t = dk[t]!)) (q i j : Nat) (hi : i < N) (hj : j < N) :
    SWu w0 blk off N (swp dk i j) (((W.drewN q).setCell ⟨blk, off + i, none⟩ (.int .u32 (G j))).setCell ⟨blk, off + j, none⟩ (.int .u32 (G i))) := (S.drewN q).swap R hG i j hi hj
theorem SWu.swapD {w0 W : World} {blk off N : Nat} {dk : Array Int} (R : RoU w0 blk off N) (S : SWu w0 blk off N dk W) {G : Nat → Int} (hG : Hid (∀ t, G t = dk[t]!)) (i j : Nat) (hi : i < N) (hj : j < N) :
    SWu w0 blk off N (swp dk i j) ((W.setCell ⟨blk, off + i, none⟩ (.int .u32 (G j))).setCell ⟨blk, off + j, none⟩ (.int .u32 (G i))).drew := (S.swap R hG i j hi hj).drewN 1

theorem fam_c2 {W : World} {blk off N : Nat} {G : Nat → Int} (h : ∀ t, t < N → W.cell? ⟨blk, off + t, none⟩ = some (.int .u32 (G t))) (i j : Nat) (v : Value) (hi : i < N) (hj : j < N) :
    ∃ u, (W.setCell ⟨blk, off + i, none⟩ v).cell? ⟨blk, off + j, none⟩ = some u := by
  by_cases e : i = j
  · subst e; exact ⟨v, World.cell?_setCell_same _ _ _ (h i hi)⟩
  · exact ⟨_, (World.cell?_setCell_other _ _ _ _ (by intro e'; simp only [Addr.mk.injEq] at e'; omega)).trans (h j hj)⟩

theorem isNaN_u (x : Int) (w : World) : Calls Try.prog 58 #[Vu x] w fun e w' => e = .returned (.bool false) ∧ w = w' := by
  go_enter Try.func58, Try.ntmps58
  go_wp2
  go_ret
  exact ⟨by simp, rfl⟩
theorem less_u (x y : Int) (w : World) : Calls Try.prog 76 #[Vu x, Vu y] w fun e w' => e = .returned (.bool (ltInt x y)) ∧ w = w' := by
  go_enter Try.func76, Try.ntmps76
  go_wp2_with (first | (refine (isNaN_u _ _).mono ?_; rintro e w1 ⟨rfl, rfl⟩))
  go_ret
  exact ⟨rfl, rfl⟩
theorem less_q (x y : Int) (w : World) (n : Nat) : Calls Try.prog 76 #[Vu x, Vu y] (w.drewN n) fun e w' => e = .returned (.bool (ltInt x y)) ∧ ∃ q, w' = w.drewN q :=
  (less_u x y _).mono fun e w' h => ⟨h.1, n, h.2.symm⟩

set_option maxRecDepth 100000 in
set_option maxHeartbeats 2000000 in
theorem insertion_u (w0 : World) (blk off cap a b N : Nat) (d : Array Int) (w : World) (R : RoU w0 blk off N) (S : SWu w0 blk off N d w) (hab : a ≤ b) (hb : b ≤ N) (hsz : N ≤ 1000000) :
    Calls Try.prog 70 #[.slice (some ⟨blk, off, none⟩) N cap, .int .i64 a, .int .i64 b] w fun e w' => e = .returned (.tuple #[]) ∧ SWu w0 blk off N (insertionSort ltInt d a b) w' := by
  replace S := Lib.hid S
  go_enter Try.func70, Try.ntmps70
  go_wp2
  go_loopw [6] (fun vi wr => ∃ (i : Nat) (dk : Array Int), vi = .int .i64 i ∧ a < i ∧ i ≤ b + 1 ∧ Hid (SWu w0 blk off N dk wr) ∧ Hid (insOuter ltInt a b i dk = insOuter ltInt a b (a + 1) d)) (fun vi _ => b + 1 - (intOf vi).toNat)
  case atStart => exact ⟨a + 1, d, by go_num, by omega, by omega, S, Lib.hid rfl⟩
  case round =>
    clear S
    obtain ⟨i, dk, rfl, hai, hib, S1, HO⟩ := hrel
    by_cases hlt : i < b
    · go_wp2
      go_loopw [7] (fun vj wr2 => ∃ (j : Nat) (dj : Array Int), vj = .int .i64 j ∧ a ≤ j ∧ j ≤ i ∧ Hid (SWu w0 blk off N dj wr2) ∧ Hid (insInner ltInt a j dj = insInner ltInt a i dk)) (fun vj _ => (intOf vj).toNat)
      case atStart => exact ⟨i, dk, rfl, by omega, Nat.le_refl _, S1, Lib.hid rfl⟩
      case round =>
        clear S1
        obtain ⟨j, dj, rfl, haj, hji, S2, HI⟩ := hrel
        obtain ⟨G, HG, hcw, hfw⟩ := R.fam S2.out
        have OUT : (j ≤ a ∨ ltInt dj[j]! dj[j - 1]! = false) → Hid (insOuter ltInt a b (i + 1) dj = insOuter ltInt a b (a + 1) d) := fun hs => Lib.hid (by
          rw [← HO.out, insOuter_go _ _ _ _ _ hlt, ← HI.out, insInner_stop _ _ _ _ hs])
        replace OUT := Lib.hid OUT
        by_cases hja : a < j
        · go_wp2_with fail
          go_quiet (first | (go_at_call 76; refine less_q _ _ _ _))
          go_wp2
          · have hl : ltInt (G j) (G (j - 1)) = true := by assumption
            go_region
            all_goals go_wp2
            go_roundw
            case rel =>
              refine ⟨j - 1, swp dj j (j - 1), by congr 1; omega, by omega, by omega, ?_, ?_⟩
              · exact Lib.hid (S2.out.swapd R HG _ j (j - 1) (by omega) (by omega))
              · refine Lib.hid ?_
                rw [← HI.out, insInner_go ltInt a j dj hja (by rw [← HG.out, ← HG.out]; exact hl)]
            case measure => simp [intOf]; omega
          · have hl : ltInt (G j) (G (j - 1)) = false := by assumption
            go_roundw
            case rel => exact ⟨i + 1, dj, by go_num, by omega, by omega, Lib.hid (S2.out.drewN _), OUT.out (Or.inr (by rw [← HG.out, ← HG.out]; exact hl))⟩
            case measure => simp [intOf]; omega
        · go_wp2_with fail
          go_quiet (first | (go_at_call 76; refine less_q _ _ _ _))
          go_wp2
          go_roundw
          case rel => exact ⟨i + 1, dj, by go_num, by omega, by omega, Lib.hid (S2.out.drewN _), OUT.out (Or.inl (by omega))⟩
          case measure => simp [intOf]; omega
    · go_wp2
      go_end0
      exact ⟨rfl, by unfold Sort.insertionSort; rw [← HO.out, insOuter_stop _ _ _ _ _ hlt]; exact S1.out⟩

end Go.Proofs.Ytdpmhhfpjpdfiaa

namespace Go.Proofs.Ytdpmhhfpjpdfiaa
open Go.ChangeShapes Go.WideShapes Go.ChangeAt Go.RowKit Go.Sort
set_option linter.unusedVariables false
set_option linter.unusedSimpArgs false

def SWi (w0 : World) (blk N : Nat) (dk : Array Int) (W : World) : Prop := SW Vi w0 blk 0 dk W ∧ dk.size = N
structure RoI (w0 : World) (blk N : Nat) : Prop where
  d0 : ∃ d : Array Int, Holds Vi w0 blk 0 d ∧ d.size = N
  lt : blk < w0.heap.size
theorem RoI.holds {w0 W : World} {blk N : Nat} {dk : Array Int} (R : RoI w0 blk N) (S : SWi w0 blk N dk W) : Holds Vi W blk 0 dk := by
  obtain ⟨d, hd, hn⟩ := R.d0
  exact S.1.holds R.lt hd (S.2.trans hn.symm)
theorem RoI.fam {w0 W : World} {blk N : Nat} {dk : Array Int} (R : RoI w0 blk N) (S : SWi w0 blk N dk W) :
    ∃ G : Nat → Int, Hid (∀ t, G t = dk[t]!) ∧ (∀ t, t < N → W.cell? ⟨blk, 0 + t, none⟩ = some (.int .i64 (G t))) ∧ (∀ t, t < N → W.frozen? ⟨blk, 0 + t, none⟩ = false) := by
  have hH := R.holds S
  have hs := S.2
  exact ⟨fun t => dk[t]!, fun _ => rfl, fun t ht => (hH t (by omega)).1, fun t ht => (hH t (by omega)).2⟩
theorem SWi.drewN {w0 W : World} {blk N : Nat} {dk : Array Int} (S : SWi w0 blk N dk W) (q : Nat) : SWi w0 blk N dk (W.drewN q) := ⟨S.1.drewN q, S.2⟩
theorem SWi.swap {w0 W : World} {blk N : Nat} {dk : Array Int} (R : RoI w0 blk N) (S : SWi w0 blk N dk W) {G : Nat → Int} (hG : Hid (∀ t, G t = dk[t]!)) (i j : Nat) (hi : i < N) (hj : j < N) :
    SWi w0 blk N (swp dk i j) ((W.setCell ⟨blk, 0 + i, none⟩ (.int .i64 (G j))).setCell ⟨blk, 0 + j, none⟩ (.int .i64 (G i))).drew := by
  rw [hG.out, hG.out]
  exact ⟨(S.1.swap R.lt i j (by rw [S.2]; exact hi) (by rw [S.2]; exact hj)).drewN 1, by rw [size_swp]; exact S.2⟩
theorem fam_c2i {W : World} {blk N : Nat} {G : Nat → Int} (h : ∀ t, t < N → W.cell? ⟨blk, 0 + t, none⟩ = some (.int .i64 (G t))) (i j : Nat) (v : Value) (hi : i < N) (hj : j < N) :
    ∃ u, (W.setCell ⟨blk, 0 + i, none⟩ v).cell? ⟨blk, 0 + j, none⟩ = some u := by
  by_cases e : i = j
  · subst e; exact ⟨v, World.cell?_setCell_same _ _ _ (h i hi)⟩
  · exact ⟨_, (World.cell?_setCell_other _ _ _ _ (by intro e'; simp only [Addr.mk.injEq] at e'; omega)).trans (h j hj)⟩
theorem SWi.other {w0 W : World} {blk N : Nat} {dk : Array Int} (S : SWi w0 blk N dk W) {T o : Nat} {v : Value} (hne : T ≠ blk) (hc : w0.cell? ⟨T, o, none⟩ = some v) : W.cell? ⟨T, o, none⟩ = some v := by
  obtain ⟨⟨n, os, rfl⟩, _⟩ := S
  have hT : T < w0.heap.size := World.block_lt_of_cell? w0 ⟨T, o, none⟩ hc
  unfold sortWorld
  rw [cell?_grow _ _ _ (by show T < _; rw [size_putRow]; exact hT), cell?_putRow_other _ _ _ _ _ _ (Or.inl hne)]
  exact hc

theorem numLess_any (w0 : World) (blk N cap i j : Nat) (d : Array Int) (w : World) (R : RoI w0 blk N) (S : SWi w0 blk N d w) (hi : i < N) (hj : j < N) :
    Calls Try.prog 101 #[.slice (some ⟨blk, 0, none⟩) N cap, .int .i64 i, .int .i64 j] w fun e w' => e = .returned (.bool (ltInt d[i]! d[j]!)) ∧ SWi w0 blk N d w' := by
  replace S := Lib.hid S
  obtain ⟨G, HG, hcw, hfw⟩ := R.fam S.out
  simp only [Nat.zero_add] at hcw hfw
  rw [← HG.out, ← HG.out]
  go_enter Try.func101, Try.ntmps101
  go_wp2_with fail
  go_quiet (fail)
  go_wp2_with fail
  go_ret
  exact ⟨rfl, S.out.drewN _⟩
set_option maxRecDepth 100000 in
set_option maxHeartbeats 1000000 in
theorem numSwap_any (w0 : World) (blk N cap i j : Nat) (d : Array Int) (w : World) (R : RoI w0 blk N) (S : SWi w0 blk N d w) (hi : i < N) (hj : j < N) :
    Calls Try.prog 102 #[.slice (some ⟨blk, 0, none⟩) N cap, .int .i64 i, .int .i64 j] w fun e w' => e = .returned (.tuple #[]) ∧ SWi w0 blk N (swp d i j) w' := by
  replace S := Lib.hid S
  obtain ⟨G, HG, hcw, hfw⟩ := R.fam S.out
  obtain ⟨u, hc2⟩ := fam_c2i hcw i j (.int .i64 (G j)) hi hj
  have hS := Lib.hid (SWi.swap R S.out HG i j hi hj)
  simp only [Nat.zero_add] at hcw hfw hc2 hS
  go_enter Try.func102, Try.ntmps102
  go_wp2_with fail
  go_region
  all_goals go_wp2_with fail
  go_end0
  exact ⟨rfl, hS.out⟩

theorem meth_at (W : World) (a : Addr) (A : Option Addr) (n c : Nat) (h : W.cell? a = some (.slice A n c)) :
    (∀ k, (method (k + 1) 68 (.pointer (some a)) "Len").run Try.prog W = .ok (100, .slice A n c) W) ∧
    (∀ k, (method (k + 1) 68 (.pointer (some a)) "Less").run Try.prog W = .ok (101, .slice A n c) W) ∧
    (∀ k, (method (k + 1) 68 (.pointer (some a)) "Swap").run Try.prog W = .ok (102, .slice A n c) W) := by
  refine ⟨fun k => ?_, fun k => ?_, fun k => ?_⟩
  · have : (method (k + 1) 68 (.pointer (some a)) "Len").run Try.prog W = (receiverVia 68 (.pointer (some a)) #[] false >>= fun r => pure (100, r)).run Try.prog W := by kernel_rfl
    rw [this]
    simp [receiverVia, follow, receiverAt, Place.get, go_sem, run_underlying Try.underlying68, h, Result.andThen]
  · have : (method (k + 1) 68 (.pointer (some a)) "Less").run Try.prog W = (receiverVia 68 (.pointer (some a)) #[] false >>= fun r => pure (101, r)).run Try.prog W := by kernel_rfl
    rw [this]
    simp [receiverVia, follow, receiverAt, Place.get, go_sem, run_underlying Try.underlying68, h, Result.andThen]
  · have : (method (k + 1) 68 (.pointer (some a)) "Swap").run Try.prog W = (receiverVia 68 (.pointer (some a)) #[] false >>= fun r => pure (102, r)).run Try.prog W := by kernel_rfl
    rw [this]
    simp [receiverVia, follow, receiverAt, Place.get, go_sem, run_underlying Try.underlying68, h, Result.andThen]
theorem meth_own (W : World) (v : Value) :
    (∀ k, (method (k + 1) 68 v "Push").run Try.prog W = .ok (104, v) W) ∧
    (∀ k, (method (k + 1) 68 v "Pop").run Try.prog W = .ok (103, v) W) := ⟨fun k => by kernel_rfl, fun k => by kernel_rfl⟩

theorem entLen (args : Array Value) (w : World) : (callFunc 100 args).run Try.prog w = .ok (.enter 100 args) w := enters_of Try.func100 (by kernel_rfl) rfl args w
theorem entLess (args : Array Value) (w : World) : (callFunc 101 args).run Try.prog w = .ok (.enter 101 args) w := enters_of Try.func101 (by kernel_rfl) rfl args w
theorem entSwap (args : Array Value) (w : World) : (callFunc 102 args).run Try.prog w = .ok (.enter 102 args) w := enters_of Try.func102 (by kernel_rfl) rfl args w
theorem entPush (args : Array Value) (w : World) : (callFunc 104 args).run Try.prog w = .ok (.enter 104 args) w := enters_of Try.func104 (by kernel_rfl) rfl args w
theorem entPop (args : Array Value) (w : World) : (callFunc 103 args).run Try.prog w = .ok (.enter 103 args) w := enters_of Try.func103 (by kernel_rfl) rfl args w

set_option maxRecDepth 100000 in
set_option maxHeartbeats 2000000 in
theorem up_any (w0 : World) (T o blk N cap j : Nat) (d : Array Int) (w : World) (R : RoI w0 blk N) (hT : w0.cell? ⟨T, o, none⟩ = some (.slice (some ⟨blk, 0, none⟩) N cap)) (hne : T ≠ blk) (S : SWi w0 blk N d w) (hj : j < N) (hN : N ≤ 1000000) :
    Calls Try.prog 59 #[.iface 68 (.pointer (some ⟨T, o, none⟩)), .int .i64 j] w fun e w' => e = .returned (.tuple #[]) ∧ SWi w0 blk N (upA j d) w' := by
  replace S := Lib.hid S
  replace hT := Lib.hid hT
  have eL := entLess
  have eS := entSwap
  go_enter Try.func59, Try.ntmps59
  go_wp2_with fail
  go_loopw [1] (fun vj wr => ∃ (k : Nat) (dk : Array Int), vj = .int .i64 k ∧ k ≤ j ∧ Hid (SWi w0 blk N dk wr) ∧ Hid (upA k dk = upA j d)) (fun vj _ => (intOf vj).toNat)
  case atStart => exact ⟨j, d, rfl, Nat.le_refl _, S, Lib.hid rfl⟩
  case round =>
    clear S
    obtain ⟨k, dk, rfl, hk, S1, HO⟩ := hrel
    obtain ⟨m1, m2, m3⟩ := meth_at wr _ _ _ _ (S1.out.other hne hT.out)
    cases k with
    | zero =>
      have z1 : ((0 : Nat) : Int) - 1 = -1 := rfl
      go_wp2_with fail
      go_end0
      exact ⟨rfl, by rw [← HO.out, upA_end (.inl rfl)]; exact S1.out⟩
    | succ k =>
      obtain ⟨q, hq⟩ : ∃ q : Nat, q = k / 2 := ⟨_, rfl⟩
      obtain ⟨c, hc⟩ : ∃ c : Nat, c = k + 1 := ⟨_, rfl⟩
      have zc : (c : Int) - 1 = (k : Int) := by omega
      have zq : (k : Int) / 2 = (q : Int) := by omega
      have hqc : ((q : Int) == (c : Int)) = false := by simp; omega
      have hpar : Hid ((c - 1) / 2 = q) := Lib.hid (by omega)
      have hc0 : 0 < c := by omega
      rw [← hc] at hk HO ⊢
      have hls := Lib.hid (numLess_any w0 blk N cap c q dk wr R S1.out (by omega) (by omega))
      clear hc hq
      cases hl : ltInt dk[c]! dk[q]! with
      | true =>
        rw [hl] at hls
        have hl2 : dk[c]! < dk[q]! := by simpa [ltInt] using hl
        have HO2 := Lib.hid (show upA q (swp dk q c) = upA j d by rw [← HO.out, upA_go hc0 (by rw [hpar.out]; exact hl2), hpar.out])
        clear hl hl2
        go_wp2_with (first | (refine hls.out.mono ?_; rintro e w2 ⟨rfl, S2⟩; obtain ⟨m4, m5, m6⟩ := meth_at w2 _ _ _ _ (S2.other hne hT.out); replace S2 := Lib.hid S2))
        refine (numSwap_any w0 blk N cap q c dk w2 R S2.out (by omega) (by omega)).mono ?_
        rintro e w3 ⟨rfl, S3⟩
        replace S3 := Lib.hid S3
        go_wp2_with fail
        go_roundw
        case rel => exact ⟨q, _, rfl, by have := hpar.out; omega, S3, HO2⟩
        case measure => simp [intOf]; have := hpar.out; omega
      | false =>
        rw [hl] at hls
        have hl2 : ¬ dk[c]! < dk[q]! := by simpa [ltInt] using hl
        have HO2 := Lib.hid (show dk = upA j d by rw [← HO.out, upA_end (.inr (by rw [hpar.out]; exact hl2))])
        clear hl hl2
        go_wp2_with (first | (refine hls.out.mono ?_; rintro e w2 ⟨rfl, S2⟩; replace S2 := Lib.hid S2))
        go_end0
        exact ⟨rfl, by rw [← HO2.out]; exact S2.out⟩

end Go.Proofs.Ytdpmhhfpjpdfiaa

namespace Go.Proofs.Ytdpmhhfpjpdfiaa
open Go.ChangeShapes Go.WideShapes Go.ChangeAt Go.RowKit Go.Sort
set_option linter.unusedVariables false
set_option linter.unusedSimpArgs false

theorem add_at (b o n : Nat) : (⟨b, o, none⟩ : Addr).add n = ⟨b, o + n, none⟩ := by unfold Addr.add; split <;> simp_all

def Row (w : World) (A : Option Addr) (xs : List Value) : Prop :=
  0 < xs.length → ∃ b o, A = some ⟨b, o, none⟩ ∧ ∀ (j : Nat) (u : Value), xs[j]? = some u → w.cell? ⟨b, o + j, none⟩ = some u

theorem Row.nil (w : World) (A : Option Addr) : Row w A [] := fun h => absurd h (by simp)
theorem Row.ext {w w' : World} {A : Option Addr} {xs : List Value} (h : Row w A xs) (hx : Ext w w') : Row w' A xs := fun h0 => by
  obtain ⟨b, o, e, hc⟩ := h h0
  exact ⟨b, o, e, fun j u hu => hx.keep (hc j u hu)⟩
theorem Row.take {w : World} {A : Option Addr} {xs : List Value} (h : Row w A xs) (k : Nat) : Row w A (xs.take k) := fun h0 => by
  obtain ⟨b, o, e, hc⟩ := h (by simp at h0; omega)
  refine ⟨b, o, e, fun j u hu => hc j u ?_⟩
  rw [List.getElem?_take] at hu
  split at hu
  · exact hu
  · cases hu
theorem Row.drop {w : World} {b o : Nat} {xs : List Value} (h : Row w (some ⟨b, o, none⟩) xs) (k : Nat) : Row w (some ⟨b, o + k, none⟩) (xs.drop k) := fun h0 => by
  obtain ⟨b', o', e, hc⟩ := h (by simp at h0; omega)
  injection e with e
  injection e with e1 e2 e3
  subst e1
  subst e2
  refine ⟨_, _, rfl, fun j u hu => ?_⟩
  rw [List.getElem?_drop] at hu
  rw [Nat.add_assoc]
  exact hc _ u hu
theorem Row.own {w : World} {base : Nat} {e : TypeId} {size : Nat} {A : Option Addr} {n c : Nat} {xs : List Value} (h : w.ownsRow base e size (.slice A n c) n xs) : Row w A xs := fun h0 => by
  have hn : 0 < n := by
    rcases Nat.eq_zero_or_pos n with h1 | h1
    · subst h1; have := h.1; omega
    · exact h1
  obtain ⟨g, cap, hv, _, hlt⟩ := h.form hn
  have hA : A = some ⟨g, 0, none⟩ := by injection hv
  subst hA
  refine ⟨g, 0, rfl, fun j u hu => ?_⟩
  rw [← add_at]
  exact h.cells (g := g) rfl j u hu

def flat {α : Type} (enc : α → List Value) (l : List α) : List Value := l.flatMap enc
theorem flat_cons {α : Type} (enc : α → List Value) (a : α) (l : List α) : flat enc (a :: l) = enc a ++ flat enc l := by simp [flat]
theorem flat_append {α : Type} (enc : α → List Value) (l m : List α) : flat enc (l ++ m) = flat enc l ++ flat enc m := by simp [flat]
section
variable {α : Type} {enc : α → List Value} {s : Nat}
theorem flat_len (hs : ∀ a, (enc a).length = s) : ∀ l : List α, (flat enc l).length = l.length * s
  | [] => by simp [flat]
  | a :: l => by rw [flat_cons, List.length_append, hs, flat_len hs l, List.length_cons, Nat.succ_mul, Nat.add_comm]
theorem flat_at (hs : ∀ a, (enc a).length = s) : ∀ {l : List α} {k : Nat} {a : α} {j : Nat}, l[k]? = some a → j < s → (flat enc l)[k * s + j]? = (enc a)[j]?
  | [], k, a, j, h, _ => by simp at h
  | x :: l, 0, a, j, h, hj => by
    have e : x = a := by simpa using h
    subst e
    rw [flat_cons, Nat.zero_mul, Nat.zero_add, List.getElem?_append_left (by rw [hs]; exact hj)]
  | x :: l, k + 1, a, j, h, hj => by
    rw [flat_cons, List.getElem?_append_right (by rw [hs, Nat.succ_mul]; omega), hs, show (k + 1) * s + j - s = k * s + j by rw [Nat.succ_mul]; omega]
    exact flat_at hs (by simpa using h) hj
theorem flat_take (hs : ∀ a, (enc a).length = s) : ∀ (l : List α) (k : Nat), flat enc (l.take k) = (flat enc l).take (k * s)
  | [], k => by simp [flat]
  | x :: l, 0 => by simp [flat]
  | x :: l, k + 1 => by
    rw [List.take_succ_cons, flat_cons, flat_cons, flat_take hs l k, List.take_append, hs, show (k + 1) * s - s = k * s by rw [Nat.succ_mul]; omega, List.take_of_length_le (l := enc x) (by rw [hs, Nat.succ_mul]; omega)]
theorem flat_drop (hs : ∀ a, (enc a).length = s) : ∀ (l : List α) (k : Nat), flat enc (l.drop k) = (flat enc l).drop (k * s)
  | [], k => by simp [flat]
  | x :: l, 0 => by simp [flat]
  | x :: l, k + 1 => by
    rw [List.drop_succ_cons, flat_cons, flat_drop hs l k, List.drop_append, hs, show (k + 1) * s - s = k * s by rw [Nat.succ_mul]; omega, show (enc x).drop ((k + 1) * s) = [] from List.drop_eq_nil_of_le (by rw [hs, Nat.succ_mul]; omega), List.nil_append]
theorem flat_one_cell (h1 : ∀ a, ∀ u ∈ enc a, u.oneCell' = true) (l : List α) : ∀ u ∈ flat enc l, u.oneCell' = true := fun u hu => by
  obtain ⟨a, _, h⟩ := List.mem_flatMap.1 hu
  exact h1 a u h
theorem Row.at {w : World} {A : Option Addr} {l : List α} (h : Row w A (flat enc l)) (hs : ∀ a, (enc a).length = s) {k : Nat} {a : α} (hk : l[k]? = some a) (h0 : 0 < s) :
    ∃ b o, A = some ⟨b, o, none⟩ ∧ ∀ j u, (enc a)[j]? = some u → w.cell? ⟨b, o + (k * s + j), none⟩ = some u := by
  have hkl : k < l.length := by
    rcases Nat.lt_or_ge k l.length with g | g
    · exact g
    · rw [List.getElem?_eq_none g] at hk; cases hk
  obtain ⟨b, o, e, hc⟩ := h (by rw [flat_len hs]; exact Nat.mul_pos (by omega) h0)
  refine ⟨b, o, e, fun j u hu => hc _ u ?_⟩
  have hj : j < s := by
    rcases Nat.lt_or_ge j s with g | g
    · exact g
    · rw [List.getElem?_eq_none (by rw [hs]; exact g)] at hu; cases hu
  rw [flat_at hs hk hj]; exact hu
end

theorem Ext.grown {a w w' : World} {v : Value} (h : Ext a w) (hg : w.grownBy w' v.ownBlock) (hv : ∀ k, v.ownBlock = some k → a.heap.size ≤ k) : Ext a w' := RowKit.Below.grown h hg h.size hv

theorem run_append_row {P : Program} (w : World) (base : Nat) (t ty e : TypeId) (i : TypeInfo) (z : Value) (size bytes : Nat) (ht : P.underlying t = some (.slice e)) (hi : P.info? e = some i) (hz : i.zero = some z)
    (hsize : i.size = size) (hby : i.bytes = bytes) (hzs : z.cells.size = size) (hsz : 0 < size)
    (v : Value) (n : Nat) (xs : List Value) (hown : w.ownsRow base e size v n xs)
    (A : Option Addr) (m c : Nat) (news : List Value) (hl : news.length = m * size) (hr : Row w A news) (h1 : ∀ u ∈ news, u.oneCell' = true)
    (h63 : n + m ≤ maxLen) (hbytes : (n + m) * bytes ≤ 140737488355328) (hbase : base ≤ w.heap.size) :
    ∃ v' w', (Builtin.append_ #[t, t] ty #[v, .slice A m c]).run P w = .ok v' w' ∧ w'.ownsRow base e size v' (n + m) (xs ++ news) ∧ w.grownBy w' v.ownBlock := by
  cases A with
  | none =>
    have h0 : news = [] := by
      cases news with
      | nil => rfl
      | cons u us => obtain ⟨b, o, e, _⟩ := hr (by simp); cases e
    subst h0
    have hm : m = 0 := by
      have := hl
      simp only [List.length_nil] at this
      rcases Nat.mul_eq_zero.1 this.symm with h | h
      · exact h
      · omega
    subst hm
    refine ⟨v, w, ?_, by simpa using hown, ⟨rfl, rfl, rfl, Nat.le_refl _, fun _ _ _ => rfl⟩⟩
    rcases hown.2 with ⟨rfl, rfl⟩ | ⟨g, cap, cur, rfl, _, _, hnc, _⟩
    · simp [Builtin.append_, run_underlying ht, sizeOf, typeInfo, hi, Builtin.lenOf, Builtin.firstCells]
    · simp [Builtin.append_, run_underlying ht, sizeOf, typeInfo, hi, Builtin.lenOf, Builtin.firstCells, hnc, storeCells]
  | some ad =>
    obtain ⟨v', w', hrun, h2, h3, _, _⟩ := run_append_own_at (P := P) w base t ty e i z size bytes ht hi hz hsize hby hzs hsz v n xs hown ad m c news hl (fun j u hu => by
      obtain ⟨b, o, e, hc⟩ := hr (by cases news <;> simp at hu ⊢)
      injection e with e
      subst e
      rw [add_at]
      exact hc j u hu) h1 h63 hbytes hbase
    exact ⟨v', w', hrun, h2, h3⟩

theorem wp_append_row {P : Program} (w : World) {o : Oper} {a : Act} {K : Act → World → Prop} {Q : Exit → Act → World → Prop} (s x : Operand) (t : TypeId)
    (ho : o.op = .call { callee := .builtin .append, args := #[s, x], argTypes := #[t, t] })
    (base : Nat) (e : TypeId) (i : TypeInfo) (z : Value) (size bytes : Nat) (ht : P.underlying t = some (.slice e)) (hi : P.info? e = some i) (hz : i.zero = some z)
    (hsize : i.size = size) (hby : i.bytes = bytes) (hzs : z.cells.size = size) (hsz : 0 < size)
    (v : Value) (n : Nat) (xs : List Value) (hs : a.eval s = v) (hown : w.ownsRow base e size v n xs)
    (A : Option Addr) (m c : Nat) (news : List Value) (hx : a.eval x = .slice A m c) (hl : news.length = m * size) (hr : Row w A news) (h1 : ∀ u ∈ news, u.oneCell' = true)
    (h63 : n + m ≤ maxLen) (hbytes : (n + m) * bytes ≤ 140737488355328) (hbase : base ≤ w.heap.size)
    (h : ∀ v' w', w'.ownsRow base e size v' (n + m) (xs ++ news) → w.grownBy w' v.ownBlock → K (a.put o.dst v') w') : o.wp P a w K Q := by
  obtain ⟨v', w', hrun, h2, h3⟩ := run_append_row (P := P) w base t o.type e i z size bytes ht hi hz hsize hby hzs hsz v n xs hown A m c news hl hr h1 h63 hbytes hbase
  unfold Oper.wp execOp
  simp only [ho, resolve, invoke, builtin, Sem.run_bind, Sem.run_pure, Result.andThen_ok, List.map_toArray, List.map_cons, List.map_nil, hs, hx, hrun]
  exact h v' w' h2 h3

theorem wpList_append_row {P : Program} (w : World) {ops : Array Oper} {rest : List Oper} {o : Oper} {a : Act} {Q : Exit → Act → World → Prop} (hgd : o.guard = none) (s x : Operand) (t : TypeId)
    (ho : o.op = .call { callee := .builtin .append, args := #[s, x], argTypes := #[t, t] })
    (base : Nat) (e : TypeId) (i : TypeInfo) (z : Value) (size bytes : Nat) (ht : P.underlying t = some (.slice e)) (hi : P.info? e = some i) (hz : i.zero = some z)
    (hsize : i.size = size) (hby : i.bytes = bytes) (hzs : z.cells.size = size) (hsz : 0 < size)
    (v : Value) (n : Nat) (xs : List Value) (hs : a.eval s = v) (hown : w.ownsRow base e size v n xs)
    (A : Option Addr) (m c : Nat) (news : List Value) (hx : a.eval x = .slice A m c) (hl : news.length = m * size) (hr : Row w A news) (h1 : ∀ u ∈ news, u.oneCell' = true)
    (h63 : n + m ≤ maxLen) (hbytes : (n + m) * bytes ≤ 140737488355328) (hbase : base ≤ w.heap.size)
    (h : ∀ v' w', w'.ownsRow base e size v' (n + m) (xs ++ news) → w.grownBy w' v.ownBlock → wpList P ops Q rest (a.put o.dst v') w') : wpList P ops Q (o :: rest) a w :=
  wpList_plain hgd fun _ hK => wp_append_row w s x t ho base e i z size bytes ht hi hz hsize hby hzs hsz v n xs hs hown A m c news hx hl hr h1 h63 hbytes hbase fun v' w' h2 h3 => hK _ _ (h v' w' h2 h3)

def cutA (A : Option Addr) (cap k s : Nat) : Option Addr := if cap = k then A else A.map (·.add (k * s))
theorem Row.cut {w : World} {A : Option Addr} {xs : List Value} (h : Row w A xs) {n cap k s : Nat} (hl : xs.length = n * s) (hc : n ≤ cap) (hk : k ≤ n) : Row w (cutA A cap k s) (xs.drop (k * s)) := fun h0 => by
  have h1 : k * s < n * s := by rw [List.length_drop, hl] at h0; omega
  have hkn : k < n := Nat.lt_of_mul_lt_mul_right h1
  obtain ⟨b, o, rfl, hcell⟩ := h (by omega)
  unfold cutA
  rw [if_neg (by omega), Option.map_some, add_at]
  exact Row.drop h (k * s) h0
theorem Row.new (w : World) (cs : Array Value) (t : TypeId) : Row (w.alloc (.cells cs t)) (some ⟨w.heap.size, 0, none⟩) cs.toList := fun _ =>
  ⟨_, _, rfl, fun j u hu => by rw [← add_at]; exact World.news_of_block (heap_alloc_new w _) j u hu⟩
theorem run_from {P : Program} {t e : TypeId} {i : TypeInfo} (ht : P.underlying t = some (.slice e)) (hi : P.info? e = some i) (A : Option Addr) (n cap : Nat) (k : Int) (W : World) (h0 : 0 ≤ k) (h1 : k ≤ n) :
    (Instr.slice t (.slice A n cap) (some (.int .i64 k)) none none).run P W = .ok (.slice (cutA A cap k.toNat i.size) (n - k.toNat) (cap - k.toNat)) W := by
  simp [Instr.slice, run_underlying ht, Instr.sliceBounds, run_sliceBound, sizeOf, typeInfo, hi, cutA, h0, h1]
theorem run_upto {P : Program} {t e : TypeId} {i : TypeInfo} (ht : P.underlying t = some (.slice e)) (hi : P.info? e = some i) (A : Option Addr) (n cap : Nat) (k : Int) (W : World) (h0 : 0 ≤ k) (h1 : k ≤ cap) :
    (Instr.slice t (.slice A n cap) none (some (.int .i64 k)) none).run P W = .ok (.slice A k.toNat cap) W := by
  have e0 : A.map (·.add 0) = A := by cases A <;> simp [Addr.add]
  simp [Instr.slice, run_underlying ht, Instr.sliceBounds, run_sliceBound, sizeOf, typeInfo, hi, h0, h1, e0]
def roomC (z : Value) (n : Nat) : Array Value := madeCells z.cells n
theorem run_room {P : Program} {t e : TypeId} {i : TypeInfo} {z : Value} {s bytes : Nat} (ht : P.underlying t = some (.slice e)) (hi : P.info? e = some i) (hz : i.zero = some z) (hs : i.size = s) (hby : i.bytes = bytes) (c : Int) (W : World) (h0 : 0 ≤ c) (h1 : (bytes : Int) * c ≤ 281474976710656) (h2 : c ≤ 9223372036854775807) :
    (Instr.makeSlice t (.int .i64 0) (.int .i64 c)).run P W = .ok (.slice (some ⟨W.heap.size, 0, none⟩) 0 c.toNat) (W.alloc (.cells (roomC z (c.toNat * s)) e)) := by
  subst hs
  subst hby
  exact run_make W t e i z ht hi hz .i64 .i64 0 c (Int.le_refl _) h0 h1 h2
theorem roomC_size (z : Value) (n : Nat) : (roomC z n).size = n := size_madeCells _ _

end Go.Proofs.Ytdpmhhfpjpdfiaa

namespace Go.Proofs.Ytdpmhhfpjpdfiaa
open Go.ChangeShapes Go.WideShapes Go.ChangeAt Go.RowKit Go.Sort
set_option linter.unusedVariables false
set_option linter.unusedSimpArgs false

def OwnG (t : TypeId) (s : Nat) (w W : World) (v : Value) (n : Nat) (xs : List Value) : Prop := W.ownsRow w.heap.size t s v n xs
section
variable {t : TypeId} {s : Nat} {w W W' : World} {v : Value} {n : Nat} {xs : List Value}
theorem OwnG.nil (t : TypeId) (s : Nat) (w W : World) : OwnG t s w W (.slice none 0 0) 0 [] := World.ownsRow_nil W _ _ _
theorem OwnG.ext (h : OwnG t s w W v n xs) (hx : Ext W W') : OwnG t s w W' v n xs := by
  unfold OwnG at h ⊢
  rcases h with ⟨h1, h2 | ⟨g, cap, cur, h2, h3, h4, h5⟩⟩
  · exact ⟨h1, .inl h2⟩
  · refine ⟨h1, .inr ⟨g, cap, cur, h2, h3, ?_, h5⟩⟩
    have hg : g < W.heap.size := by
      rcases Nat.lt_or_ge g W.heap.size with k | k
      · exact k
      · rw [Array.getElem?_eq_none k] at h4; cases h4
    rw [RowKit.Below.block hx g hg]; exact h4
theorem OwnG.down {w0 : World} (h : OwnG t s w W v n xs) (hx : Ext w0 w) : OwnG t s w0 W v n xs := by
  unfold OwnG at h ⊢
  rcases h with ⟨h1, h2 | ⟨g, cap, cur, h2, h3, h4⟩⟩
  · exact ⟨h1, .inl h2⟩
  · exact ⟨h1, .inr ⟨g, cap, cur, h2, Nat.le_trans hx.size h3, h4⟩⟩
theorem OwnG.form (h : OwnG t s w W v n xs) : ∃ A c, v = .slice A n c ∧ n ≤ c := by
  rcases h.2 with ⟨rfl, h0⟩ | ⟨g, cap, cur, rfl, _, _, h2, _⟩
  · exact ⟨none, 0, by rw [h0], by omega⟩
  · exact ⟨_, _, rfl, h2⟩
theorem OwnG.lt (h : OwnG t s w W v n xs) : ∀ k, v.ownBlock = some k → w.heap.size ≤ k := fun k hk => (World.ownsRow.lt h k hk).1
theorem OwnG.row {A : Option Addr} {c : Nat} (h : OwnG t s w W (.slice A n c) n xs) : Row W A xs := Row.own h
end

abbrev Vb (x : UInt8) : Value := .int .u8 (x.toNat : Int)
def Bys (w : World) (A : Option Addr) (l : List UInt8) : Prop := Row w A (l.map Vb)
theorem Bys.ext {w w' : World} {A : Option Addr} {l : List UInt8} (h : Bys w A l) (hx : Ext w w') : Bys w' A l := Row.ext h hx
theorem Bys.nil (w : World) (A : Option Addr) : Bys w A [] := Row.nil w A
theorem Bys.at {w : World} {A : Option Addr} {l : List UInt8} (h : Bys w A l) {k : Nat} (hk : k < l.length) : ∃ b o, A = some ⟨b, o, none⟩ ∧ w.cell? ⟨b, o + k, none⟩ = some (Vb (l.getD k 0)) := by
  obtain ⟨b, o, e, hc⟩ := h (by rw [List.length_map]; omega)
  refine ⟨b, o, e, hc k _ ?_⟩
  simp [List.getD, hk]
theorem Bys.all {w : World} {b o : Nat} {l : List UInt8} (h : Bys w (some ⟨b, o, none⟩) l) (k : Nat) (hk : k < l.length) : w.cell? ⟨b, o + k, none⟩ = some (Vb (l.getD k 0)) := by
  obtain ⟨b', o', e, hc⟩ := h.at hk
  injection e with e
  injection e with e1 e2 e3
  subst e1
  subst e2
  exact hc
theorem Bys.place {w : World} {A : Option Addr} {l : List UInt8} (h : Bys w A l) (hk : 0 < l.length) : ∃ b o, A = some ⟨b, o, none⟩ := by
  obtain ⟨b, o, e, _⟩ := h.at hk
  exact ⟨b, o, e⟩
theorem Bys.take {w : World} {A : Option Addr} {l : List UInt8} (h : Bys w A l) (k : Nat) : Bys w A (l.take k) := by
  unfold Bys; rw [List.map_take]; exact Row.take h _
theorem Bys.cut {w : World} {A : Option Addr} {l : List UInt8} (h : Bys w A l) {n cap k : Nat} (hn : l.length = n) (hc : n ≤ cap) (hk : k ≤ n) : Bys w (cutA A cap k 1) (l.drop k) := by
  have := Row.cut (s := 1) h (n := n) (cap := cap) (k := k) (by rw [List.length_map, hn, Nat.mul_one]) hc hk
  unfold Bys; rw [List.map_drop]; rw [Nat.mul_one] at this; exact this
def OwnB (w W : World) (v : Value) (l : List UInt8) : Prop := OwnG 5 1 w W v l.length (l.map Vb)
theorem OwnB.nil (w W : World) : OwnB w W (.slice none 0 0) [] := OwnG.nil _ _ _ _
theorem OwnB.ext {w W W' : World} {v : Value} {l : List UInt8} (h : OwnB w W v l) (hx : Ext W W') : OwnB w W' v l := OwnG.ext h hx
theorem OwnB.down {w0 w W : World} {v : Value} {l : List UInt8} (h : OwnB w W v l) (hx : Ext w0 w) : OwnB w0 W v l := OwnG.down h hx
theorem OwnB.open {w W : World} {v : Value} {l : List UInt8} (h : OwnB w W v l) : ∃ A c, v = .slice A l.length c ∧ l.length ≤ c ∧ Bys W A l := by
  obtain ⟨A, c, rfl, hc⟩ := OwnG.form h
  exact ⟨A, c, rfl, hc, OwnG.row h⟩
theorem OwnB.lt {w W : World} {v : Value} {l : List UInt8} (h : OwnB w W v l) : ∀ k, v.ownBlock = some k → w.heap.size ≤ k := OwnG.lt h
def roomB (c : Nat) : Array Value := roomC (.int .u8 0) (c * 1)
theorem OwnB.room {w0 W : World} (hx : Ext w0 W) (c : Nat) (h1 : c ≤ 3000) : OwnB w0 (W.alloc (.cells (roomB c) 5)) (.slice (some ⟨W.heap.size, 0, none⟩) 0 c) [] :=
  World.ownsRow_made W _ _ hx.size (by unfold maxLen; omega) (roomC_size _ _)
theorem OwnB.new {w0 W : World} (hx : Ext w0 W) (l : List UInt8) (hl : l.length ≤ 3000) (cs : Array Value) (hc : cs = (l.map Vb).toArray) : OwnB w0 (W.alloc (.cells cs 5)) (.slice (some ⟨W.heap.size, 0, none⟩) l.length l.length) l := by
  subst hc
  refine ⟨by simp, .inr ⟨W.heap.size, l.length, _, rfl, hx.size, heap_alloc_new W _, Nat.le_refl _, by unfold maxLen; omega, by simp, by simpa using List.take_of_length_le (by simp)⟩⟩
theorem Bys.new (w : World) (l : List UInt8) (cs : Array Value) (hc : cs = (l.map Vb).toArray) : Bys (w.alloc (.cells cs 5)) (some ⟨w.heap.size, 0, none⟩) l := by
  subst hc
  have := Row.new w (l.map Vb).toArray 5
  exact this

end Go.Proofs.Ytdpmhhfpjpdfiaa

namespace Go.Proofs.Ytdpmhhfpjpdfiaa
open Go.ChangeShapes Go.WideShapes Go.ChangeAt Go.RowKit Go.Sort
set_option linter.unusedVariables false
set_option linter.unusedSimpArgs false

def cmpI (a b : Int) : Int := if a < b then -1 else if b < a then 1 else 0

theorem isNaN_any (a : Int) (w : World) : Calls Try.prog 58 #[Vu a] w fun e w' => e = .returned (.bool false) ∧ w = w' := by
  go_enter Try.func58, Try.ntmps58
  go_wp2
  go_ret
  exact ⟨by simp, rfl⟩

theorem compare_any (a b : Int) (w : World) : Calls Try.prog 40 #[Vu a, Vu b] w fun e w' => e = .returned (Vi (cmpI a b)) ∧ w = w' := by
  go_enter Try.func40, Try.ntmps40
  go_wp2_with (go_at_call 58; refine (isNaN_any _ _).mono ?_; rintro e w' ⟨rfl, rfl⟩)
  all_goals go_ret
  all_goals refine ⟨?_, rfl⟩
  all_goals (refine ret_i64 ?_; unfold cmpI; (repeat' split) <;> omega)

end Go.Proofs.Ytdpmhhfpjpdfiaa

namespace Go.Proofs.Ytdpmhhfpjpdfiaa
open Go.ChangeShapes Go.WideShapes Go.ChangeAt Go.RowKit Go.Sort
set_option linter.unusedVariables false
set_option linter.unusedSimpArgs false

/- an error that is a Code, 0 for none -/
def errv (c : Int) : Value := if c = 0 then .nilIface else .iface 119 (.int .i64 c)

end Go.Proofs.Ytdpmhhfpjpdfiaa

namespace Go.Proofs.Ytdpmhhfpjpdfiaa
open Go.ChangeShapes Go.WideShapes Go.ChangeAt Go.RowKit Go.Sort
set_option linter.unusedVariables false
set_option linter.unusedSimpArgs false

theorem none_any (a b : Int) (w : World) : Calls Try.prog 37 #[idv a b] w fun e w' => e = .returned (.bool (a == 0)) ∧ Ext w w' := by
  go_enter Try.func37, Try.ntmps37
  go_wp2
  go_ret
  exact ⟨rfl, (Ext.refl _).alloc _⟩

def idEq (a b c d : Int) : Bool := decide (a = c ∧ b = d)

theorem id_eql (a b c d : Int) (W : World) : (binOp .eql 30 (idv a b) (idv c d)).run Try.prog W = .ok (.bool (idEq a b c d)) W := by
  by_cases h1 : a = c
  · by_cases h2 : b = d
    · simp [go_sem, idEq, h1, h2]
    · have h2' : (b == d) = false := by simpa using h2
      simp [go_sem, idEq, h1, h2, h2']
  · have h1' : (a == c) = false := by simpa using h1
    simp [go_sem, idEq, h1, h1']

def cmpId (a b c d : Int) : Int := if a = c then cmpI b d else cmpI a c

def aftId (a b n l : Int) : Int × Int × Int := if a = 0 ∨ n < 0 then (0, 0, 1) else if b + n > l then (0, 0, 4) else (a, b + n, 0)

theorem after_any (a b n l : Int) (w : World) (hb0 : 0 ≤ b) (hb1 : b ≤ 4294967295) (hn0 : -9223372036854775808 ≤ n) (hn1 : n ≤ 9223372036854775807) (hl0 : 0 ≤ l) (hl1 : l ≤ 4294967295) :
    Calls Try.prog 60 #[idv a b, Vi n, Vu l] w fun e w' => e = .returned (.tuple #[idv (aftId a b n l).1 (aftId a b n l).2.1, errv (aftId a b n l).2.2]) ∧ Ext w w' := by
  by_cases h1 : a = 0 ∨ n < 0
  · have ht : aftId a b n l = (0, 0, 1) := by simp [aftId, h1]
    rw [ht]
    clear ht
    by_cases ha : a = 0
    · subst ha
      clear h1
      go_enter Try.func60, Try.ntmps60
      go_wp2_with fail
      refine (none_any _ _ _).mono ?_
      rintro e w1 ⟨rfl, hb⟩
      have hE : Ext w w1 := Ext.trans (((Ext.refl _).alloc _).alloc _) hb
      obtain ⟨hc, hf⟩ := hb.cells
      go_wp2
      exact bodyPost_ret (v := .tuple #[idv 0 0, errv 1]) (by simp [results, Try.results60, go_sem, hc, errv]) rfl ⟨rfl, (hE.setCell (by simp) _).setCell (by simp) _⟩
    · have hn : n < 0 := by omega
      have ha' : (a == 0) = false := by simpa using ha
      clear h1 ha
      go_enter Try.func60, Try.ntmps60
      go_wp2_with fail
      refine (none_any _ _ _).mono ?_
      rintro e w1 ⟨rfl, hb⟩
      have hE : Ext w w1 := Ext.trans (((Ext.refl _).alloc _).alloc _) hb
      obtain ⟨hc, hf⟩ := hb.cells
      go_wp2
      exact bodyPost_ret (v := .tuple #[idv 0 0, errv 1]) (by simp [results, Try.results60, go_sem, hc, errv]) rfl ⟨rfl, (hE.setCell (by simp) _).setCell (by simp) _⟩
  · have ha' : (a == 0) = false := by simp; omega
    have hn : 0 ≤ n := by omega
    by_cases h2 : b + n > l
    · have ht : aftId a b n l = (0, 0, 4) := by simp [aftId, h1, h2]
      rw [ht]
      clear ht h1
      go_enter Try.func60, Try.ntmps60
      go_wp2_with fail
      refine (none_any _ _ _).mono ?_
      rintro e w1 ⟨rfl, hb⟩
      have hE : Ext w w1 := Ext.trans (((Ext.refl _).alloc _).alloc _) hb
      obtain ⟨hc, hf⟩ := hb.cells
      go_wp2
      exact bodyPost_ret (v := .tuple #[idv 0 0, errv 4]) (by simp [results, Try.results60, go_sem, hc, errv]) rfl ⟨rfl, (hE.setCell (by simp) _).setCell (by simp) _⟩
    · have ht : aftId a b n l = (a, b + n, 0) := by simp [aftId, h1, h2]
      rw [ht]
      clear ht h1
      go_enter Try.func60, Try.ntmps60
      go_wp2_with fail
      refine (none_any _ _ _).mono ?_
      rintro e w1 ⟨rfl, hb⟩
      have hE : Ext w w1 := Ext.trans (((Ext.refl _).alloc _).alloc _) hb
      obtain ⟨hc, hf⟩ := hb.cells
      go_wp2
      exact bodyPost_ret (v := .tuple #[idv a (b + n), errv 0]) (by simp [results, Try.results60, go_sem, hc, errv]) rfl ⟨rfl, (hE.setCell (by simp) _).setCell (by simp) _⟩

theorem after_nil {a b n l x y : Int} (w : World) (h : aftId a b n l = (x, y, 0)) (hb0 : 0 ≤ b) (hb1 : b ≤ 4294967295) (hn0 : -9223372036854775808 ≤ n) (hn1 : n ≤ 9223372036854775807) (hl0 : 0 ≤ l) (hl1 : l ≤ 4294967295) :
    Calls Try.prog 60 #[idv a b, Vi n, Vu l] w fun e w' => e = .returned (.tuple #[idv x y, .nilIface]) ∧ Ext w w' := by
  have := after_any a b n l w hb0 hb1 hn0 hn1 hl0 hl1
  rw [h] at this
  exact this
end Go.Proofs.Ytdpmhhfpjpdfiaa

namespace Go.Proofs.Ytdpmhhfpjpdfiaa
open Go.ChangeShapes Go.WideShapes Go.ChangeAt Go.RowKit Go.Sort
set_option linter.unusedVariables false
set_option linter.unusedSimpArgs false

theorem run_append_rowB {P : Program} (w : World) (base : Nat) (t ty e : TypeId) (i : TypeInfo) (z : Value) (size bytes : Nat) (ht : P.underlying t = some (.slice e)) (hi : P.info? e = some i) (hz : i.zero = some z)
    (hsize : i.size = size) (hby : i.bytes = bytes) (hzs : z.cells.size = size) (hsz : 0 < size)
    (v : Value) (n : Nat) (xs : List Value) (hown : w.ownsRow base e size v n xs)
    (A : Option Addr) (m c : Nat) (news : List Value) (hl : news.length = m * size) (hr : Row w A news) (h1 : ∀ u ∈ news, u.oneCell' = true)
    (h63 : n + m ≤ maxLen) (hbytes : (n + m) * bytes ≤ 140737488355328) (hbase : base ≤ w.heap.size) :
    ∃ v' w', (Builtin.append_ #[t, t] ty #[v, .slice A m c]).run P w = .ok v' w' ∧ w'.ownsRow base e size v' (n + m) (xs ++ news) ∧ w.grownBy w' v.ownBlock ∧ (v'.ownBlock = v.ownBlock ∨ v'.ownBlock = some w.heap.size) := by
  cases A with
  | none =>
    have h0 : news = [] := by
      cases news with
      | nil => rfl
      | cons u us => obtain ⟨b, o, e, _⟩ := hr (by simp); cases e
    subst h0
    have hm : m = 0 := by
      have := hl
      simp only [List.length_nil] at this
      rcases Nat.mul_eq_zero.1 this.symm with h | h
      · exact h
      · omega
    subst hm
    refine ⟨v, w, ?_, by simpa using hown, ⟨rfl, rfl, rfl, Nat.le_refl _, fun _ _ _ => rfl⟩, .inl rfl⟩
    rcases hown.2 with ⟨rfl, rfl⟩ | ⟨g, cap, cur, rfl, _, _, hnc, _⟩
    · simp [Builtin.append_, run_underlying ht, sizeOf, typeInfo, hi, Builtin.lenOf, Builtin.firstCells]
    · simp [Builtin.append_, run_underlying ht, sizeOf, typeInfo, hi, Builtin.lenOf, Builtin.firstCells, hnc, storeCells]
  | some ad =>
    obtain ⟨v', w', hrun, h2, h3, _, h5⟩ := run_append_own_at (P := P) w base t ty e i z size bytes ht hi hz hsize hby hzs hsz v n xs hown ad m c news hl (fun j u hu => by
      obtain ⟨b, o, e, hc⟩ := hr (by cases news <;> simp at hu ⊢)
      injection e with e
      subst e
      rw [add_at]
      exact hc j u hu) h1 h63 hbytes hbase
    exact ⟨v', w', hrun, h2, h3, h5⟩

def encI (x : It) : List Value := [Vu x.c, Vu x.k, Vu x.lc, Vu x.lk, Vu x.rc, Vu x.rk, .int .i32 x.ch]
abbrev itv (x : It) : Value := .agg #[.int .u32 x.c, .int .u32 x.k, .int .u32 x.lc, .int .u32 x.lk, .int .u32 x.rc, .int .u32 x.rk, .int .i32 x.ch]
theorem encI_len (p : It) : (encI p).length = 7 := rfl
theorem encI_one (p : It) : ∀ u ∈ encI p, u.oneCell' = true := by intro u hu; simp [encI] at hu; rcases hu with rfl | rfl | rfl | rfl | rfl | rfl | rfl <;> rfl
theorem infoI : (Try.prog.info? 32).map (fun i => (i.zero, i.size, i.bytes)) = some (some (.agg #[.int .u32 0, .int .u32 0, .int .u32 0, .int .u32 0, .int .u32 0, .int .u32 0, .int .i32 0]), 7, 28) := by kernel_rfl
def ItS (w : World) (A : Option Addr) (l : List It) : Prop := Row w A (flat encI l)
theorem ItS.ext {w w' : World} {A : Option Addr} {l : List It} (h : ItS w A l) (hx : Ext w w') : ItS w' A l := Row.ext h hx
theorem ItS.nil (w : World) (A : Option Addr) : ItS w A [] := Row.nil w A
structure ItC (w : World) (b o : Nat) (x : It) : Prop where
  c0 : w.cell? ⟨b, o, none⟩ = some (Vu x.c)
  c1 : w.cell? ⟨b, o + 1, none⟩ = some (Vu x.k)
  c2 : w.cell? ⟨b, o + 2, none⟩ = some (Vu x.lc)
  c3 : w.cell? ⟨b, o + 3, none⟩ = some (Vu x.lk)
  c4 : w.cell? ⟨b, o + 4, none⟩ = some (Vu x.rc)
  c5 : w.cell? ⟨b, o + 5, none⟩ = some (Vu x.rk)
  c6 : w.cell? ⟨b, o + 6, none⟩ = some (.int .i32 x.ch)
theorem ItC.ext {w w' : World} {b o : Nat} {x : It} (h : ItC w b o x) (hx : Ext w w') : ItC w' b o x := ⟨hx.keep h.c0, hx.keep h.c1, hx.keep h.c2, hx.keep h.c3, hx.keep h.c4, hx.keep h.c5, hx.keep h.c6⟩
theorem ItS.at {w : World} {A : Option Addr} {l : List It} (h : ItS w A l) {k : Nat} (hk : k < l.length) : ∃ b o x, A = some ⟨b, o, none⟩ ∧ l[k]? = some x ∧ ItC w b (o + k * 7) x := by
  obtain ⟨x, hp⟩ : ∃ p, l[k]? = some p := ⟨l[k], List.getElem?_eq_getElem hk⟩
  obtain ⟨b, o, e, hc⟩ := Row.at h encI_len hp (by omega)
  exact ⟨b, o, x, e, hp, hc 0 _ rfl, hc 1 _ rfl, hc 2 _ rfl, hc 3 _ rfl, hc 4 _ rfl, hc 5 _ rfl, hc 6 _ rfl⟩
theorem ItS.take {w : World} {A : Option Addr} {l : List It} (h : ItS w A l) (k : Nat) : ItS w A (l.take k) := by
  unfold ItS; rw [flat_take encI_len]; exact Row.take h _
theorem ItS.cut {w : World} {A : Option Addr} {l : List It} (h : ItS w A l) {n cap k : Nat} (hn : l.length = n) (hc : n ≤ cap) (hk : k ≤ n) : ItS w (cutA A cap k 7) (l.drop k) := by
  unfold ItS; rw [flat_drop encI_len]; exact Row.cut h (n := n) (by rw [flat_len encI_len, hn]) hc hk
theorem ItS.new (w : World) (x : It) : ItS (w.alloc (.cells #[.int .u32 x.c, .int .u32 x.k, .int .u32 x.lc, .int .u32 x.lk, .int .u32 x.rc, .int .u32 x.rk, .int .i32 x.ch] 32)) (some ⟨w.heap.size, 0, none⟩) [x] := Row.new w #[.int .u32 x.c, .int .u32 x.k, .int .u32 x.lc, .int .u32 x.lk, .int .u32 x.rc, .int .u32 x.rk, .int .i32 x.ch] 32
theorem fromI (A : Option Addr) (n cap k : Nat) (h1 : k ≤ n) (z : Int) (hz : z = k) (W : World) : (Instr.slice 23 (.slice A n cap) (some (.int .i64 z)) none none).run Try.prog W = .ok (.slice (cutA A cap k 7) (n - k) (cap - k)) W := by
  subst hz
  obtain ⟨i, hi, hz0, hz1, hz2⟩ := info_parts infoI
  have := run_from Try.underlying23 hi A n cap k W (by omega) (by omega)
  rw [hz1] at this
  exact this
theorem uptoI (A : Option Addr) (n cap k : Nat) (h1 : k ≤ cap) (z : Int) (hz : z = k) (W : World) : (Instr.slice 23 (.slice A n cap) none (some (.int .i64 z)) none).run Try.prog W = .ok (.slice A k cap) W := by
  subst hz
  obtain ⟨i, hi, hz0, hz1, hz2⟩ := info_parts infoI
  exact run_upto Try.underlying23 hi A n cap k W (by omega) (by omega)
def OwnI (w W : World) (v : Value) (l : List It) : Prop := OwnG 32 7 w W v l.length (flat encI l)
theorem OwnI.nil (w W : World) : OwnI w W (.slice none 0 0) [] := OwnG.nil _ _ _ _
theorem OwnI.ext {w W W' : World} {v : Value} {l : List It} (h : OwnI w W v l) (hx : Ext W W') : OwnI w W' v l := OwnG.ext h hx
theorem OwnI.down {w0 w W : World} {v : Value} {l : List It} (h : OwnI w W v l) (hx : Ext w0 w) : OwnI w0 W v l := OwnG.down h hx
theorem OwnI.lt {w W : World} {v : Value} {l : List It} (h : OwnI w W v l) : ∀ k, v.ownBlock = some k → w.heap.size ≤ k ∧ k < W.heap.size := World.ownsRow.lt h
theorem OwnI.open {w W : World} {v : Value} {l : List It} (h : OwnI w W v l) : ∃ A c, v = .slice A l.length c ∧ l.length ≤ c ∧ ItS W A l := by
  obtain ⟨A, c, rfl, hc⟩ := OwnG.form h
  exact ⟨A, c, rfl, hc, OwnG.row h⟩
theorem OwnI.kept {w W W' : World} {v : Value} {l : List It} {row : Option Nat} (h : OwnI w W v l) (hg : W.grownBy W' row) (hn : v.ownBlock = none ∨ v.ownBlock ≠ row) : OwnI w W' v l := World.ownsRow.kept h hg hn
def RetI (w : World) (l : List It) (e : Ending) (w' : World) : Prop := ∃ v, e = .returned v ∧ OwnI w w' v l ∧ Ext w w'
theorem RetI.down {w0 w w' : World} {l : List It} {e : Ending} (h : RetI w l e w') (hx : Ext w0 w) : RetI w0 l e w' := by
  obtain ⟨v, h1, h2, h3⟩ := h
  exact ⟨v, h1, h2.down hx, hx.trans h3⟩

theorem wpList_append_I {w0 w : World} {ops : Array Oper} {rest : List Oper} {o : Oper} {a : Act} {Q : Exit → Act → World → Prop} (hgd : o.guard = none) (s x : Operand)
    (ho : o.op = .call { callee := .builtin .append, args := #[s, x], argTypes := #[23, 23] })
    (v : Value) (l : List It) (hs : a.eval s = v) (hown : OwnI w0 w v l) (hx : Ext w0 w)
    (A : Option Addr) (m c : Nat) (r : List It) (he : a.eval x = .slice A m c) (hm : r.length = m) (hr : ItS w A r) (hb : l.length + r.length ≤ 100000)
    (h : ∀ v' w', OwnI w0 w' v' (l ++ r) → Ext w0 w' → w.grownBy w' v.ownBlock → (v'.ownBlock = v.ownBlock ∨ v'.ownBlock = some w.heap.size) → wpList Try.prog ops Q rest (a.put o.dst v') w') : wpList Try.prog ops Q (o :: rest) a w := by
  refine wpList_plain hgd fun K hK => ?_
  obtain ⟨i, hi, hz0, hz1, hz2⟩ := info_parts infoI
  subst hm
  obtain ⟨v', w', hrun, h2, h3, h4⟩ := run_append_rowB (P := Try.prog) w w0.heap.size 23 o.type 32 i _ 7 28 Try.underlying23 hi hz0 hz1 hz2 rfl (by omega) v l.length _ hown A r.length c _ (flat_len encI_len r) hr (flat_one_cell encI_one r)
    (by unfold maxLen; omega) (by omega) hx.size
  unfold Oper.wp execOp
  simp only [ho, resolve, invoke, builtin, Sem.run_bind, Sem.run_pure, Result.andThen_ok, List.map_toArray, List.map_cons, List.map_nil, hs, he, hrun]
  refine hK _ _ (h v' w' ?_ (hx.grown h3 (OwnG.lt hown)) h3 h4)
  unfold OwnI OwnG
  rw [flat_append, List.length_append]
  exact h2

def encR (x : Rn) : List Value := [Vu x.c, Vu x.k, Vu x.lc, Vu x.lk, Vu x.rc, Vu x.rk, .string ⟨x.t.toArray⟩]
theorem encR_len (p : Rn) : (encR p).length = 7 := rfl
def RnS (w : World) (A : Option Addr) (l : List Rn) : Prop := Row w A (flat encR l)
theorem RnS.ext {w w' : World} {A : Option Addr} {l : List Rn} (h : RnS w A l) (hx : Ext w w') : RnS w' A l := Row.ext h hx
theorem RnS.nil (w : World) (A : Option Addr) : RnS w A [] := Row.nil w A
structure RnC (w : World) (b o : Nat) (x : Rn) : Prop where
  c0 : w.cell? ⟨b, o, none⟩ = some (Vu x.c)
  c1 : w.cell? ⟨b, o + 1, none⟩ = some (Vu x.k)
  c2 : w.cell? ⟨b, o + 2, none⟩ = some (Vu x.lc)
  c3 : w.cell? ⟨b, o + 3, none⟩ = some (Vu x.lk)
  c4 : w.cell? ⟨b, o + 4, none⟩ = some (Vu x.rc)
  c5 : w.cell? ⟨b, o + 5, none⟩ = some (Vu x.rk)
  c6 : w.cell? ⟨b, o + 6, none⟩ = some (.string ⟨x.t.toArray⟩)
theorem RnC.ext {w w' : World} {b o : Nat} {x : Rn} (h : RnC w b o x) (hx : Ext w w') : RnC w' b o x := ⟨hx.keep h.c0, hx.keep h.c1, hx.keep h.c2, hx.keep h.c3, hx.keep h.c4, hx.keep h.c5, hx.keep h.c6⟩
theorem RnS.at {w : World} {A : Option Addr} {l : List Rn} (h : RnS w A l) {k : Nat} (hk : k < l.length) : ∃ b o x, A = some ⟨b, o, none⟩ ∧ l[k]? = some x ∧ RnC w b (o + k * 7) x := by
  obtain ⟨x, hp⟩ : ∃ p, l[k]? = some p := ⟨l[k], List.getElem?_eq_getElem hk⟩
  obtain ⟨b, o, e, hc⟩ := Row.at h encR_len hp (by omega)
  exact ⟨b, o, x, e, hp, hc 0 _ rfl, hc 1 _ rfl, hc 2 _ rfl, hc 3 _ rfl, hc 4 _ rfl, hc 5 _ rfl, hc 6 _ rfl⟩
theorem RnS.take {w : World} {A : Option Addr} {l : List Rn} (h : RnS w A l) (k : Nat) : RnS w A (l.take k) := by
  unfold RnS; rw [flat_take encR_len]; exact Row.take h _
theorem RnS.cut {w : World} {A : Option Addr} {l : List Rn} (h : RnS w A l) {n cap k : Nat} (hn : l.length = n) (hc : n ≤ cap) (hk : k ≤ n) : RnS w (cutA A cap k 7) (l.drop k) := by
  unfold RnS; rw [flat_drop encR_len]; exact Row.cut h (n := n) (by rw [flat_len encR_len, hn]) hc hk
def BoxI (W : World) (g : Nat) (x : It) : Prop := W.heap[g]? = some (.cells #[Vu x.c, Vu x.k, Vu x.lc, Vu x.lk, Vu x.rc, Vu x.rk, .int .i32 x.ch] 32 (0, 0))
theorem BoxI.grown {W W' : World} {g : Nat} {x : It} {row : Option Nat} (h : BoxI W g x) (hg : W.grownBy W' row) (hn : some g ≠ row) : BoxI W' g x := by
  unfold BoxI at h ⊢
  rw [hg.block g (Array.getElem?_eq_some_iff.1 h).1 hn]; exact h
theorem BoxI.ext {W W' : World} {g : Nat} {x : It} (h : BoxI W g x) (hx : Ext W W') : BoxI W' g x := by
  unfold BoxI at h ⊢
  rw [RowKit.Below.block hx g (Array.getElem?_eq_some_iff.1 h).1]; exact h
theorem BoxI.cells {W : World} {g : Nat} {x : It} (h : BoxI W g x) : ItC W g 0 x :=
  ⟨by rw [cell_of_row W g 0 _ _ _ h]; rfl, by rw [cell_of_row W g (0 + 1) _ _ _ h]; rfl, by rw [cell_of_row W g (0 + 2) _ _ _ h]; rfl, by rw [cell_of_row W g (0 + 3) _ _ _ h]; rfl, by rw [cell_of_row W g (0 + 4) _ _ _ h]; rfl, by rw [cell_of_row W g (0 + 5) _ _ _ h]; rfl, by rw [cell_of_row W g (0 + 6) _ _ _ h]; rfl⟩
theorem BoxI.lt {W : World} {g : Nat} {x : It} (h : BoxI W g x) : g < W.heap.size := (Array.getElem?_eq_some_iff.1 h).1

end Go.Proofs.Ytdpmhhfpjpdfiaa

namespace Go.Proofs.Ytdpmhhfpjpdfiaa
open Go.ChangeShapes Go.WideShapes Go.ChangeAt Go.RowKit Go.Sort
set_option linter.unusedVariables false
set_option linter.unusedSimpArgs false
attribute [local go_sem] World.cell?_alloc_some

end Go.Proofs.Ytdpmhhfpjpdfiaa

namespace Go.Proofs.Ytdpmhhfpjpdfiaa
open Go.ChangeShapes Go.WideShapes Go.ChangeAt Go.RowKit Go.Sort
set_option linter.unusedVariables false
set_option linter.unusedSimpArgs false

def MapS (w : World) (b : Nat) (l : List (I2 × Value)) : Prop := ∃ es clk, w.heap[b]? = some (.map es clk) ∧ es.toList.map (fun e => (e.key, e.val)) = l.map fun p => (idv p.1.1 p.1.2, p.2)
def lkp : List (I2 × Value) → I2 → Option Value
  | [], _ => none
  | p :: r, a => if p.1 = a then some p.2 else lkp r a

theorem MapS.lt {w : World} {b : Nat} {l : List (I2 × Value)} (h : MapS w b l) : b < w.heap.size := by
  obtain ⟨es, clk, hb, _⟩ := h
  exact (Array.getElem?_eq_some_iff.1 hb).1
theorem MapS.kept {w w' : World} {b : Nat} {l : List (I2 × Value)} {row : Option Nat} (h : MapS w b l) (hg : w.grownBy w' row) (hne : some b ≠ row) : MapS w' b l := by
  have hlt := h.lt
  obtain ⟨es, clk, hb, hl⟩ := h
  exact ⟨es, clk, (hg.block b hlt hne).trans hb, hl⟩
theorem MapS.ext {w w' : World} {b : Nat} {l : List (I2 × Value)} (h : MapS w b l) (hx : Ext w w') : MapS w' b l := by
  have hlt := h.lt
  obtain ⟨es, clk, hb, hl⟩ := h
  exact ⟨es, clk, (RowKit.Below.block hx b hlt).trans hb, hl⟩
theorem MapS.made (w : World) : MapS (w.alloc (.map #[] 0)) w.heap.size [] := ⟨#[], 0, (MapKept.heap_alloc w _).1, rfl⟩

theorem id_equal (a b c d : Int) (W : World) : (Op.equal 30 (.agg #[.int .u32 a, .int .u32 b]) (.agg #[.int .u32 c, .int .u32 d])).run Try.prog W = .ok (decide (a = c ∧ b = d)) W := by
  show (Op.equalIn 10000 30 (.agg #[.int .u32 a, .int .u32 b]) (.agg #[.int .u32 c, .int .u32 d])).run Try.prog W = _
  by_cases h1 : a = c
  · by_cases h2 : b = d
    · subst h1; subst h2; simp [go_sem]
    · have : (b == d) = false := by simpa using h2
      subst h1
      simp [go_sem, this, h2]
  · have : (a == c) = false := by simpa using h1
    simp [go_sem, this, h1]

theorem asking_is (a b : Int) (W : World) : ∀ (es : List MapEntry) (l : List (I2 × Value)) (i : Nat), es.map (fun e => (e.key, e.val)) = l.map (fun p => (idv p.1.1 p.1.2, p.2)) →
    ∃ r, (Instr.findAsking 30 (idv a b) es i).run Try.prog W = .ok r W ∧ r.map (·.2) = lkp l (a, b)
  | [], [], i, _ => ⟨none, rfl, rfl⟩
  | [], p :: l, i, h => by simp at h
  | e :: es, [], i, h => by simp at h
  | e :: es, p :: l, i, h => by
    obtain ⟨⟨c, d⟩, v⟩ := p
    simp only [List.map_cons, List.cons.injEq, Prod.mk.injEq] at h
    obtain ⟨⟨h1, h2⟩, h3⟩ := h
    by_cases hs : c = a ∧ d = b
    · obtain ⟨rfl, rfl⟩ := hs
      refine ⟨some (i, e.val), ?_, by simp [lkp, h2]⟩
      unfold Instr.findAsking
      simp [h1, id_equal, Result.andThen]
    · have hd : decide (a = c ∧ b = d) = false := decide_eq_false (fun e => hs ⟨e.1.symm, e.2.symm⟩)
      obtain ⟨r, hr, hv⟩ := asking_is a b W es l (i + 1) h3
      refine ⟨r, ?_, ?_⟩
      · unfold Instr.findAsking
        simp only [Sem.run_bind, h1, id_equal, hd, Result.andThen_ok]
        simpa using hr
      · unfold lkp
        rw [if_neg (fun e => hs (by injection e with e1 e2; exact ⟨e1, e2⟩))]
        exact hv

theorem find_is (a b : Int) (W : World) (es : List MapEntry) (l : List (I2 × Value)) (h : es.map (fun e => (e.key, e.val)) = l.map (fun p => (idv p.1.1 p.1.2, p.2))) :
    ∃ r, (Instr.findKey 30 (idv a b) es).run Try.prog W = .ok r W ∧ r.map (·.2) = lkp l (a, b) := by
  obtain ⟨r, hr, hv⟩ := asking_is a b W es l 0 h
  refine ⟨r, ?_, hv⟩
  unfold Instr.findKey
  simp only [Sem.run_bind, run_underlying Try.underlying30, Result.andThen_ok]
  cases es with
  | nil => simpa [Instr.findNow, Instr.findAsking] using hr
  | cons e es => simpa [Instr.findNow, Instr.sameNow] using hr

theorem id_check (em : Bool) (a b : Int) (W : World) : (Instr.checkKey em 10000 30 (idv a b)).run Try.prog W = .ok () W := by
  have hu : ∀ W : World, (Instr.checkKey em 9999 28 (.int .u32 a)).run Try.prog W = .ok () W := fun W => by
    show (Instr.checkKey em (9998 + 1) _ _).run Try.prog W = _
    unfold Instr.checkKey
    simp only [Sem.run_bind, run_underlying Try.underlying28, Result.andThen_ok]
    rfl
  have hv : ∀ W : World, (Instr.checkKey em 9999 28 (.int .u32 b)).run Try.prog W = .ok () W := fun W => by
    show (Instr.checkKey em (9998 + 1) _ _).run Try.prog W = _
    unfold Instr.checkKey
    simp only [Sem.run_bind, run_underlying Try.underlying28, Result.andThen_ok]
    rfl
  show (Instr.checkKey em (9999 + 1) _ _).run Try.prog W = _
  unfold Instr.checkKey
  simp [run_underlying Try.underlying30, go_sem, hu, hv]

theorem MapS.look {w : World} {b : Nat} {l : List (I2 × Value)} (h : MapS w b l) {T E : TypeId} (ht : Try.prog.underlying T = some (.map 30 E)) (a : I2) (z : Value) (hz : (zeroValue E).run Try.prog w = .ok z w) :
    (Instr.lookup T (.map (some b)) (.agg #[.int .u32 a.1, .int .u32 a.2]) false).run Try.prog w = .ok ((lkp l a).getD z) w := by
  obtain ⟨es, clk, hb, hl⟩ := h
  obtain ⟨r, hr, hv⟩ := find_is a.1 a.2 w es.toList l hl
  have hc := id_check es.isEmpty a.1 a.2 w
  rw [← hv]
  cases r with
  | none => simp [Instr.lookup, run_underlying ht, MapKept.run_getObj_map hb, hc, hr, hz, Result.andThen]
  | some r => simp [Instr.lookup, run_underlying ht, MapKept.run_getObj_map hb, hc, hr, Result.andThen]
theorem MapS.store {w : World} {b : Nat} {l : List (I2 × Value)} (h : MapS w b l) {T E : TypeId} (ht : Try.prog.underlying T = some (.map 30 E)) (a : I2) (v : Value) (hn : lkp l a = none) :
    ∃ w', (Instr.mapUpdate T (.map (some b)) (.agg #[.int .u32 a.1, .int .u32 a.2]) v).run Try.prog w = .ok () w' ∧ MapS w' b (l ++ [(a, v)]) ∧ w.grownBy w' (some b) := by
  obtain ⟨es, clk, hb, hl⟩ := h
  obtain ⟨r, hr, hv⟩ := find_is a.1 a.2 w es.toList l hl
  rw [hn] at hv
  cases r with
  | some r => cases hv
  | none =>
    have hc := id_check false a.1 a.2 w
    refine ⟨ChangeMaps.setBlock w b (.map (es.push ⟨idv a.1 a.2, v, clk⟩) (clk + 1)), by simp [Instr.mapUpdate, run_underlying ht, MapKept.run_getObj_map hb, hc, hr, MapKept.run_setObj_map _ hb, Result.andThen, ChangeMaps.setBlock], ⟨_, _, ChangeMaps.heap_setBlock_same hb _, ?_⟩, ⟨rfl, rfl, rfl, by simp [ChangeMaps.setBlock], fun i _ hi => ChangeMaps.heap_setBlock_other hb _ (fun e => hi (by rw [e]))⟩⟩
    simp [hl]

theorem lkp_none {l : List (I2 × Value)} {a : I2} : lkp l a = none ↔ ∀ p ∈ l, p.1 ≠ a := by
  induction l with
  | nil => simp [lkp]
  | cons p l ih =>
    rw [lkp]
    split
    · simp_all
    · simp_all

end Go.Proofs.Ytdpmhhfpjpdfiaa

namespace Go.Proofs.Ytdpmhhfpjpdfiaa
open Go.ChangeShapes Go.WideShapes Go.ChangeAt Go.RowKit Go.Sort
set_option linter.unusedVariables false
set_option linter.unusedSimpArgs false
attribute [local go_sem] World.cell?_alloc_some

def encN (x : Nd) : List Value := [Vu x.id.1, Vu x.id.2, Vi (x.on : Int), .bool x.right, Vi (x.depth : Int), Vi (x.far : Int)]
theorem encN_len (p : Nd) : (encN p).length = 6 := rfl
def NdS (w : World) (A : Option Addr) (l : List Nd) : Prop := Row w A (flat encN l)
theorem NdS.ext {w w' : World} {A : Option Addr} {l : List Nd} (h : NdS w A l) (hx : Ext w w') : NdS w' A l := Row.ext h hx
structure NdC (w : World) (b o : Nat) (x : Nd) : Prop where
  c0 : w.cell? ⟨b, o, none⟩ = some (Vu x.id.1)
  c1 : w.cell? ⟨b, o + 1, none⟩ = some (Vu x.id.2)
  c2 : w.cell? ⟨b, o + 2, none⟩ = some (Vi (x.on : Int))
  c3 : w.cell? ⟨b, o + 3, none⟩ = some (.bool x.right)
  c4 : w.cell? ⟨b, o + 4, none⟩ = some (Vi (x.depth : Int))
  c5 : w.cell? ⟨b, o + 5, none⟩ = some (Vi (x.far : Int))
theorem NdC.ext {w w' : World} {b o : Nat} {x : Nd} (h : NdC w b o x) (hx : Ext w w') : NdC w' b o x := ⟨hx.keep h.c0, hx.keep h.c1, hx.keep h.c2, hx.keep h.c3, hx.keep h.c4, hx.keep h.c5⟩
theorem NdS.at {w : World} {b o : Nat} {l : List Nd} (h : NdS w (some ⟨b, o, none⟩) l) {k : Nat} {x : Nd} (hp : l[k]? = some x) : NdC w b (o + k * 6) x := by
  obtain ⟨b', o', e, hc⟩ := Row.at h encN_len hp (by omega)
  injection e with e
  injection e with e1 e2 e3
  subst e1
  subst e2
  exact ⟨hc 0 _ rfl, hc 1 _ rfl, hc 2 _ rfl, hc 3 _ rfl, hc 4 _ rfl, hc 5 _ rfl⟩
theorem NdS.place {w : World} {A : Option Addr} {l : List Nd} (h : NdS w A l) (h0 : 0 < l.length) : ∃ b o, A = some ⟨b, o, none⟩ := by
  obtain ⟨b, o, e, _⟩ := h (by rw [flat_len encN_len]; omega)
  exact ⟨b, o, e⟩
def numG (k : Nat) : List It → List (I2 × Value)
  | [] => []
  | x :: l => (iid x, .int .i64 (k : Int)) :: numG (k + 1) l
def numM (l : List It) : List (I2 × Value) := numG 1 l
structure GrS (W : World) (g : Nat) (l : List It) (ns : List Nd) : Prop where
  ok : GrN l ns
  kn : knownI l = true
  cells : ∃ b o cap mb, W.cell? ⟨g, 0, none⟩ = some (.slice (some ⟨b, o, none⟩) (l.length + 1) cap) ∧ W.cell? ⟨g, 1, none⟩ = some (.map (some mb)) ∧ l.length + 1 ≤ cap ∧ NdS W (some ⟨b, o, none⟩) ns ∧ MapS W mb (numM l)
theorem GrS.ext {W W' : World} {g : Nat} {l : List It} {ns : List Nd} (h : GrS W g l ns) (hx : Ext W W') : GrS W' g l ns := by
  obtain ⟨b, o, cap, mb, h1, h2, h3, h4, h5⟩ := h.cells
  exact ⟨h.ok, h.kn, b, o, cap, mb, hx.keep h1, hx.keep h2, h3, h4.ext hx, h5.ext hx⟩

structure GrT (W : World) (g : Nat) (l : List It) (ns : List Nd) : Prop where
  ok : GrN l ns
  kn : knownI l = true
  cells : ∃ b o cap, W.cell? ⟨g, 0, none⟩ = some (.slice (some ⟨b, o, none⟩) (l.length + 1) cap) ∧ l.length + 1 ≤ cap ∧ NdS W (some ⟨b, o, none⟩) ns
theorem GrS.nodes {W : World} {g : Nat} {l : List It} {ns : List Nd} (h : GrS W g l ns) : GrT W g l ns := by
  obtain ⟨b, o, cap, mb, h1, h2, h3, h4, h5⟩ := h.cells
  exact ⟨h.ok, h.kn, b, o, cap, h1, h3, h4⟩
theorem GrT.ext {W W' : World} {g : Nat} {l : List It} {ns : List Nd} (h : GrT W g l ns) (hx : Ext W W') : GrT W' g l ns := by
  obtain ⟨b, o, cap, h1, h3, h4⟩ := h.cells
  exact ⟨h.ok, h.kn, b, o, cap, hx.keep h1, h3, h4.ext hx⟩

end Go.Proofs.Ytdpmhhfpjpdfiaa

namespace Go.Proofs.Ytdpmhhfpjpdfiaa
open Go.ChangeShapes Go.WideShapes Go.ChangeAt Go.RowKit Go.Sort
set_option linter.unusedVariables false
set_option linter.unusedSimpArgs false

def RX (p : Nat) (W W' : World) : Prop := W.grownBy W' (some p)
theorem RX.refl (p : Nat) (W : World) : RX p W W := ⟨rfl, rfl, rfl, Nat.le_refl _, fun _ _ _ => rfl⟩
theorem RX.trans {p : Nat} {a b c : World} (h : RX p a b) (k : RX p b c) : RX p a c :=
  ⟨k.os.trans h.os, k.tape.trans h.tape, k.output.trans h.output, Nat.le_trans h.size k.size, fun j hj hne => (k.block j (Nat.lt_of_lt_of_le hj h.size) hne).trans (h.block j hj hne)⟩
theorem RX.ext {p : Nat} {a b : World} (h : Ext a b) : RX p a b := ⟨RowKit.Below.os h, RowKit.Below.tape h, RowKit.Below.output h, h.size, fun k hk _ => RowKit.Below.block h k hk⟩
theorem RX.down {p : Nat} {w0 W W' : World} (hx : Ext w0 W) (hp : w0.heap.size ≤ p) (h : RX p W W') : Ext w0 W' := RowKit.Below.grown hx h hx.size (fun k hk => by injection hk with hk; omega)
theorem RX.cell {p q j : Nat} {W W' : World} {x : Value} (h : RX p W W') (hc : W.cell? ⟨q, j, none⟩ = some x) (hne : q ≠ p) : W'.cell? ⟨q, j, none⟩ = some x := by
  rw [World.cell?_of_block (w := W) (w' := W') (a := ⟨q, j, none⟩) (h.block q (World.block_lt_of_cell? _ _ hc) (fun e => hne (by injection e)))]; exact hc
theorem RX.blk {p q : Nat} {W W' : World} {o : Obj} (h : RX p W W') (hc : W.heap[q]? = some o) (hne : q ≠ p) : W'.heap[q]? = some o := by
  rw [h.block q (Array.getElem?_eq_some_iff.1 hc).1 (fun e => hne (by injection e))]; exact hc
theorem RX.set {p q : Nat} {W W' : World} (h : RX p W W') (j : Nat) (u : Value) (hq : W.heap.size ≤ q ∨ q = p) : RX p W (W'.setCell ⟨q, j, none⟩ u) := by
  refine ⟨by rw [← h.os]; rfl, by rw [← h.tape]; rfl, by rw [← h.output]; rfl, by have := h.size; simpa [World.setCell] using this, fun k hk hne => ?_⟩
  rw [heap_setCell_other _ _ _ _ ?_, h.block k hk hne]
  intro e
  simp only at e
  subst e
  rcases hq with g | g
  · omega
  · exact hne (by rw [g])
structure GX (B p q : Nat) (w W : World) : Prop where
  os : W.os = w.os
  tape : W.tape = w.tape
  output : W.output = w.output
  size : B ≤ W.heap.size
  block : ∀ k, k < B → k ≠ p → k ≠ q → W.heap[k]? = w.heap[k]?
theorem GX.refl (B p q : Nat) (w : World) (h : B ≤ w.heap.size) : GX B p q w w := ⟨rfl, rfl, rfl, h, fun _ _ _ _ => rfl⟩
theorem GX.on {B p q : Nat} {w W W' : World} {row : Option Nat} (h : GX B p q w W) (g : W.grownBy W' row) (hr : ∀ k, row = some k → B ≤ k ∨ k = p ∨ k = q) : GX B p q w W' := by
  refine ⟨g.os.trans h.os, g.tape.trans h.tape, g.output.trans h.output, Nat.le_trans h.size g.size, fun k hk h1 h2 => ?_⟩
  rw [g.block k (Nat.lt_of_lt_of_le hk h.size) ?_, h.block k hk h1 h2]
  intro e
  rcases hr k e.symm with h3 | h3 | h3
  · omega
  · exact h1 h3
  · exact h2 h3
theorem GX.set {B p q j : Nat} {w W : World} (h : GX B p q w W) (u : Value) : GX B p q w (W.setCell ⟨q, j, none⟩ u) := h.on (RX.set (RX.refl q W) j u (.inr rfl)) (fun k e => by injection e with e; exact .inr (.inr e.symm))
theorem GX.down {B p q : Nat} {w0 w W : World} (h : GX B p q w W) (hx : Ext w0 w) (hB : w.heap.size ≤ B) (hp : w0.heap.size ≤ p) (hq : w0.heap.size ≤ q) : Ext w0 W := by
  refine ⟨h.os.trans (RowKit.Below.os hx), h.tape.trans (RowKit.Below.tape hx), h.output.trans (RowKit.Below.output hx), by have := hx.size; have := h.size; omega, fun k hk => ?_⟩
  rw [h.block k (by have := hx.size; omega) (by omega) (by omega)]
  exact RowKit.Below.block hx k hk
def far (B : Nat) (v : Value) : Prop := ∀ k, v.ownBlock = some k → B ≤ k
theorem far.nil (B : Nat) : far B (.slice none 0 0) := fun k hk => by cases hk
theorem far.mono {B C : Nat} {v : Value} (h : far B v) (hc : C ≤ B) : far C v := fun k hk => Nat.le_trans hc (h k hk)
theorem far.ne {B k : Nat} {v : Value} (h : far B v) (hk : k < B) : v.ownBlock = none ∨ v.ownBlock ≠ some k := .inr fun e => by have := h k e; omega
theorem far.on {B n : Nat} {v v' : Value} (h : far B v) (b : v'.ownBlock = v.ownBlock ∨ v'.ownBlock = some n) (hn : B ≤ n) : far B v' := fun k hk => by
  rcases b with e | e
  · exact h k (by rw [← e]; exact hk)
  · rw [e] at hk; injection hk with hk; omega

theorem GX.ext {B p q : Nat} {w W W' : World} (h : GX B p q w W) (hx : Ext W W') : GX B p q w W' :=
  h.on (row := none) ⟨RowKit.Below.os hx, RowKit.Below.tape hx, RowKit.Below.output hx, hx.size, fun k hk _ => RowKit.Below.block hx k hk⟩ (fun k e => by cases e)

end Go.Proofs.Ytdpmhhfpjpdfiaa

namespace Go.Proofs.Ytdpmhhfpjpdfiaa
open Go.ChangeShapes Go.WideShapes Go.ChangeAt Go.RowKit Go.Sort
set_option linter.unusedVariables false
set_option linter.unusedSimpArgs false
attribute [local go_sem] World.cell?_alloc_some

theorem infoZ : (Try.prog.info? 3).map (fun i => (i.zero, i.size, i.bytes)) = some (some (.int .i64 0), 1, 8) := by kernel_rfl
def ZS (w : World) (A : Option Addr) (l : List Int) : Prop := Row w A (l.map Vi)
theorem ZS.ext {w w' : World} {A : Option Addr} {l : List Int} (h : ZS w A l) (hx : Ext w w') : ZS w' A l := Row.ext h hx
theorem ZS.nil (w : World) (A : Option Addr) : ZS w A [] := Row.nil w A
theorem ZS.at {w : World} {A : Option Addr} {l : List Int} (h : ZS w A l) {k : Nat} {z : Int} (hk : l[k]? = some z) : ∃ b o, A = some ⟨b, o, none⟩ ∧ w.cell? ⟨b, o + k, none⟩ = some (Vi z) := by
  have hkl := lt_of_get hk
  obtain ⟨b, o, e, hc⟩ := h (by rw [List.length_map]; omega)
  exact ⟨b, o, e, hc k _ (by rw [List.getElem?_map, hk]; rfl)⟩
theorem ZS.take {w : World} {A : Option Addr} {l : List Int} (h : ZS w A l) (k : Nat) : ZS w A (l.take k) := by
  unfold ZS; rw [List.map_take]; exact Row.take h _
theorem map_Vi_one (l : List Int) : ∀ u ∈ l.map Vi, u.oneCell' = true := by intro u hu; obtain ⟨b, _, rfl⟩ := List.mem_map.1 hu; rfl
theorem ZS.new (w : World) (z : Int) : ZS (w.alloc (.cells #[.int .i64 z] 3)) (some ⟨w.heap.size, 0, none⟩) [z] := Row.new w #[.int .i64 z] 3
def OwnZ (w W : World) (v : Value) (l : List Int) : Prop := OwnG 3 1 w W v l.length (l.map Vi)
theorem OwnZ.nil (w W : World) : OwnZ w W (.slice none 0 0) [] := OwnG.nil _ _ _ _
theorem OwnZ.ext {w W W' : World} {v : Value} {l : List Int} (h : OwnZ w W v l) (hx : Ext W W') : OwnZ w W' v l := OwnG.ext h hx
theorem OwnZ.down {w0 w W : World} {v : Value} {l : List Int} (h : OwnZ w W v l) (hx : Ext w0 w) : OwnZ w0 W v l := OwnG.down h hx
theorem OwnZ.lt {w W : World} {v : Value} {l : List Int} (h : OwnZ w W v l) : ∀ k, v.ownBlock = some k → w.heap.size ≤ k ∧ k < W.heap.size := World.ownsRow.lt h
theorem OwnZ.open {w W : World} {v : Value} {l : List Int} (h : OwnZ w W v l) : ∃ A c, v = .slice A l.length c ∧ l.length ≤ c ∧ ZS W A l := by
  obtain ⟨A, c, rfl, hc⟩ := OwnG.form h
  exact ⟨A, c, rfl, hc, OwnG.row h⟩
theorem OwnZ.kept {w W W' : World} {v : Value} {l : List Int} {row : Option Nat} (h : OwnZ w W v l) (hg : W.grownBy W' row) (hn : v.ownBlock = none ∨ v.ownBlock ≠ row) : OwnZ w W' v l := World.ownsRow.kept h hg hn
theorem app_Z (w0 w : World) (ty : TypeId) (v : Value) (l : List Int) (hown : OwnZ w0 w v l) (hx : w0.heap.size ≤ w.heap.size) (A : Option Addr) (m c : Nat) (r : List Int) (hm : r.length = m) (hr : ZS w A r) (hb : l.length + r.length ≤ 17000000000000) :
    ∃ v' w', (Builtin.append_ #[51, 51] ty #[v, .slice A m c]).run Try.prog w = .ok v' w' ∧ OwnZ w0 w' v' (l ++ r) ∧ w.grownBy w' v.ownBlock ∧ (v'.ownBlock = v.ownBlock ∨ v'.ownBlock = some w.heap.size) := by
  obtain ⟨i, hi, hz0, hz1, hz2⟩ := info_parts infoZ
  subst hm
  obtain ⟨v', w', hrun, h2, h3, h4⟩ := run_append_rowB (P := Try.prog) w w0.heap.size 51 ty 3 i _ 1 8 Try.underlying51 hi hz0 hz1 hz2 rfl (by omega) v l.length _ hown A r.length c (r.map Vi) (by rw [List.length_map, Nat.mul_one]) hr (map_Vi_one r)
    (by unfold maxLen; omega) (by omega) hx
  refine ⟨v', w', hrun, ?_, h3, h4⟩
  unfold OwnZ OwnG
  rw [List.map_append, List.length_append]
  exact h2
theorem OwnZ.made (w W : World) (n : Nat) (hx : w.heap.size ≤ W.heap.size) (hn : n ≤ 17000000000000) : OwnZ w (W.alloc (.cells (madeCells #[.int .i64 0] n) 3)) (.slice (some ⟨W.heap.size, 0, none⟩) 0 n) [] :=
  ⟨rfl, .inr ⟨W.heap.size, n, _, rfl, hx, heap_alloc_new W _, Nat.zero_le _, by unfold maxLen; omega, by rw [size_madeCells, Nat.mul_one], rfl⟩⟩

end Go.Proofs.Ytdpmhhfpjpdfiaa

namespace Go.Proofs.Ytdpmhhfpjpdfiaa
open Go.ChangeShapes Go.WideShapes Go.ChangeAt Go.RowKit Go.Sort
set_option linter.unusedVariables false
set_option linter.unusedSimpArgs false

structure TSb (S : Nat → Prop) (W W' : World) : Prop where
  os : W'.os = W.os
  tape : W'.tape = W.tape
  output : W'.output = W.output
  size : W.heap.size ≤ W'.heap.size
  block : ∀ k, k < W.heap.size → ¬ S k → W'.heap[k]? = W.heap[k]?
theorem TSb.refl (S : Nat → Prop) (W : World) : TSb S W W := ⟨rfl, rfl, rfl, Nat.le_refl _, fun _ _ _ => rfl⟩
theorem TSb.trans {S T : Nat → Prop} {a b c : World} (h : TSb S a b) (k : TSb T b c) (hT : ∀ j, j < a.heap.size → T j → S j) : TSb S a c :=
  ⟨k.os.trans h.os, k.tape.trans h.tape, k.output.trans h.output, Nat.le_trans h.size k.size, fun j hj hn => (k.block j (Nat.lt_of_lt_of_le hj h.size) fun e => hn (hT j hj e)).trans (h.block j hj hn)⟩
theorem TSb.ext {S : Nat → Prop} {a b : World} (h : Ext a b) : TSb S a b := ⟨RowKit.Below.os h, RowKit.Below.tape h, RowKit.Below.output h, h.size, fun k hk _ => RowKit.Below.block h k hk⟩
theorem TSb.down {S : Nat → Prop} {w0 W W' : World} (h : TSb S W W') (hx : Ext w0 W) (hS : ∀ k, S k → w0.heap.size ≤ k) : Ext w0 W' :=
  ⟨h.os.trans (RowKit.Below.os hx), h.tape.trans (RowKit.Below.tape hx), h.output.trans (RowKit.Below.output hx), Nat.le_trans hx.size h.size, fun k hk => (h.block k (Nat.lt_of_lt_of_le hk hx.size) fun e => by have := hS k e; omega).trans (RowKit.Below.block hx k hk)⟩

end Go.Proofs.Ytdpmhhfpjpdfiaa
