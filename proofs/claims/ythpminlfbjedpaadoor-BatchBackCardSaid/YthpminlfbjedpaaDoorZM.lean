/-
  Several texts of this seat in one file, each in the namespace again; no claim stands here.
-/
import Derived.Lib.OthersKept
import Derived.Test.YthpminlfbjedpaaDoorZL
import Derived.Test.YthpminlfbjedpaaDoorZH
import Derived.Test.YthpminlfbjedpaaDoorChrZ
namespace Go.Proofs.YthpminlfbjedpaaDoor
open Go.ChangeShapes Go.WideShapes Go.ChangeAt Go.RowKit Go.Sort
set_option linter.unusedVariables false
attribute [local go_sem] World.cell?_alloc_some

def runsS (l : List UInt8) : Nat → Nat × Bool → List Rn × Nat × Bool
  | 0, s => ([], s)
  | k + 1, s => if s.2 then ([], s) else ((runS l s).1 :: (runsS l k (runS l s).2).1, (runsS l k (runS l s).2).2)
def spansS (l : List UInt8) : Nat → Nat × Bool → List Sp × Nat × Bool
  | 0, s => ([], s)
  | k + 1, s => if s.2 then ([], s) else ((spanS l s).1 :: (spansS l k (spanS l s).2).1, (spansS l k (spanS l s).2).2)
def runsT (l : List UInt8) (s : Nat × Bool) : List Rn × Nat × Bool := runsS l (numS l s).1 (numS l s).2
def spansT (l : List UInt8) (s : Nat × Bool) : List Sp × Nat × Bool := spansS l (numS l s).1 (numS l s).2
def batS (l : List UInt8) (s : Nat × Bool) : (List Rn × List Sp) × Nat × Bool := (((runsT l s).1, (spansT l (runsT l s).2).1), (spansT l (runsT l s).2).2)

theorem num_bad {l : List UInt8} {s : Nat × Bool} (h : s.2 = true) : (numS l s).2.2 = true := by
  unfold numS; split
  · rfl
  · exact h
theorem txt_bad {l : List UInt8} {s : Nat × Bool} (h : s.2 = true) : (txtS l s).2.2 = true := by
  unfold txtS; split
  · rfl
  · exact h
theorem id_bad {l : List UInt8} {s : Nat × Bool} (h : s.2 = true) : (idS l s).2.2 = true := num_bad (num_bad h)
theorem num_good {l : List UInt8} {p : Nat} (h : (numS l (p, false)).2.2 = false) : ∃ v k, getB l p = some (v, k) ∧ numS l (p, false) = (v, p + k, false) := by
  unfold numS at h ⊢
  cases hg : getB l p with
  | none => rw [hg] at h; cases h
  | some x => obtain ⟨v, k⟩ := x; exact ⟨v, k, rfl, by simp⟩
theorem num_some {l : List UInt8} {p v k : Nat} (h : getB l p = some (v, k)) : numS l (p, false) = (v, p + k, false) := by
  unfold numS; simp only [h]
theorem num_none {l : List UInt8} {p : Nat} (h : getB l p = none) : (numS l (p, false)).2.2 = true := by
  unfold numS; simp only [h]
theorem txt_some {l : List UInt8} {p k : Nat} {t : List UInt8} (h : getT l p = some (t, k)) : txtS l (p, false) = (t, p + k, false) := by
  unfold txtS; simp only [h]
theorem txt_none {l : List UInt8} {p : Nat} (h : getT l p = none) : (txtS l (p, false)).2.2 = true := by
  unfold txtS; simp only [h]
/-- as many numbers as are asked for, one behind the other -/
def numsS (l : List UInt8) : Nat → Nat × Bool → List Nat × Nat × Bool
  | 0, s => ([], s)
  | k + 1, s => ((numS l s).1 :: (numsS l k (numS l s).2).1, (numsS l k (numS l s).2).2)
theorem nums_bad {l : List UInt8} : ∀ (k : Nat) {s : Nat × Bool}, s.2 = true → (numsS l k s).2.2 = true
  | 0, _, h => h
  | k + 1, _, h => nums_bad k (num_bad h)
theorem nums_none {l : List UInt8} : ∀ (k p : Nat), numsAt l k p = none → (numsS l k (p, false)).2.2 = true
  | 0, p, h => by cases h
  | k + 1, p, h => by
    rw [numsAt] at h
    cases hg : getB l p with
    | none => exact nums_bad k (num_none hg)
    | some x =>
      obtain ⟨v, j⟩ := x
      rw [hg] at h
      simp only at h
      have ih := nums_none (l := l) k (p + j)
      cases hn : numsAt l k (p + j) with
      | none => simp only [numsS, num_some hg]; exact ih hn
      | some y => obtain ⟨vs, q⟩ := y; rw [hn] at h; cases h
theorem nums_some {l : List UInt8} : ∀ (k p : Nat) {vs : List Nat} {q : Nat}, numsAt l k p = some (vs, q) → numsS l k (p, false) = (vs, q, false)
  | 0, p, vs, q, h => by
    simp only [numsAt, Option.some.injEq, Prod.mk.injEq] at h
    obtain ⟨rfl, rfl⟩ := h
    rfl
  | k + 1, p, vs, q, h => by
    rw [numsAt] at h
    cases hg : getB l p with
    | none => rw [hg] at h; cases h
    | some x =>
      obtain ⟨v, j⟩ := x
      rw [hg] at h
      simp only at h
      cases hn : numsAt l k (p + j) with
      | none => rw [hn] at h; cases h
      | some y =>
        obtain ⟨ws, e⟩ := y
        rw [hn] at h
        simp only [Option.some.injEq, Prod.mk.injEq] at h
        obtain ⟨rfl, rfl⟩ := h
        simp only [numsS, num_some hg, nums_some k (p + j) hn]
theorem run_nums (l : List UInt8) (s : Nat × Bool) : runS l s = (runOf (numsS l 6 s).1 (txtS l (numsS l 6 s).2).1, (txtS l (numsS l 6 s).2).2) := rfl
theorem span_nums (l : List UInt8) (s : Nat × Bool) : spanS l s = (spanOf (numsS l 3 s).1, (numsS l 3 s).2) := rfl
theorem run_none {l : List UInt8} {p : Nat} (h : runAt l p = none) : (runS l (p, false)).2.2 = true := by
  rw [runAt] at h
  rw [run_nums]
  cases hn : numsAt l 6 p with
  | none => exact txt_bad (nums_none 6 p hn)
  | some x =>
    obtain ⟨vs, q⟩ := x
    rw [hn] at h
    simp only at h
    rw [nums_some 6 p hn]
    cases ht : getT l q with
    | none => exact txt_none ht
    | some y => obtain ⟨t, k⟩ := y; rw [ht] at h; cases h
theorem run_some {l : List UInt8} {p q : Nat} {r : Rn} (h : runAt l p = some (r, q)) : runS l (p, false) = (r, q, false) := by
  rw [runAt] at h
  rw [run_nums]
  cases hn : numsAt l 6 p with
  | none => rw [hn] at h; cases h
  | some x =>
    obtain ⟨vs, e⟩ := x
    rw [hn] at h
    simp only at h
    rw [nums_some 6 p hn]
    cases ht : getT l e with
    | none => rw [ht] at h; cases h
    | some y =>
      obtain ⟨t, k⟩ := y
      rw [ht] at h
      simp only [Option.some.injEq, Prod.mk.injEq] at h
      obtain ⟨rfl, rfl⟩ := h
      simp only [txt_some ht]
theorem span_none {l : List UInt8} {p : Nat} (h : numsAt l 3 p = none) : (spanS l (p, false)).2.2 = true := by rw [span_nums]; show (numsS l 3 (p, false)).2.2 = true; exact nums_none 3 p h
theorem span_some {l : List UInt8} {p q : Nat} {vs : List Nat} (h : numsAt l 3 p = some (vs, q)) : spanS l (p, false) = (spanOf vs, q, false) := by rw [span_nums, nums_some 3 p h]
theorem runs_badS {l : List UInt8} (k : Nat) {s : Nat × Bool} (h : s.2 = true) : runsS l k s = ([], s) := by
  cases k with
  | zero => rfl
  | succ k => rw [runsS, if_pos h]
theorem spans_badS {l : List UInt8} (k : Nat) {s : Nat × Bool} (h : s.2 = true) : spansS l k s = ([], s) := by
  cases k with
  | zero => rfl
  | succ k => rw [spansS, if_pos h]
theorem runs_none {l : List UInt8} : ∀ (k p : Nat), runsAt l k p = none → (runsS l k (p, false)).2.2 = true
  | 0, p, h => by cases h
  | k + 1, p, h => by
    rw [runsAt] at h
    rw [runsS, if_neg (by simp)]
    cases hr : runAt l p with
    | none => simp only; rw [runs_badS k (run_none hr)]; exact run_none hr
    | some x =>
      obtain ⟨r, q⟩ := x
      rw [hr] at h
      simp only at h
      rw [run_some hr]
      cases hn : runsAt l k q with
      | none => exact runs_none k q hn
      | some y => obtain ⟨rs, e⟩ := y; rw [hn] at h; cases h
theorem runs_some {l : List UInt8} : ∀ (k p : Nat) {rs : List Rn} {q : Nat}, runsAt l k p = some (rs, q) → runsS l k (p, false) = (rs, q, false)
  | 0, p, rs, q, h => by
    simp only [runsAt, Option.some.injEq, Prod.mk.injEq] at h
    obtain ⟨rfl, rfl⟩ := h
    rfl
  | k + 1, p, rs, q, h => by
    rw [runsAt] at h
    rw [runsS, if_neg (by simp)]
    cases hr : runAt l p with
    | none => rw [hr] at h; cases h
    | some x =>
      obtain ⟨r, e⟩ := x
      rw [hr] at h
      simp only at h
      rw [run_some hr]
      cases hn : runsAt l k e with
      | none => rw [hn] at h; cases h
      | some y =>
        obtain ⟨rs', e'⟩ := y
        rw [hn] at h
        simp only [Option.some.injEq, Prod.mk.injEq] at h
        obtain ⟨rfl, rfl⟩ := h
        simp only [runs_some k e hn]
theorem spans_none {l : List UInt8} : ∀ (k p : Nat), spansAt l k p = none → (spansS l k (p, false)).2.2 = true
  | 0, p, h => by cases h
  | k + 1, p, h => by
    rw [spansAt] at h
    rw [spansS, if_neg (by simp)]
    cases hr : numsAt l 3 p with
    | none => simp only; rw [spans_badS k (span_none hr)]; exact span_none hr
    | some x =>
      obtain ⟨r, q⟩ := x
      rw [hr] at h
      simp only at h
      rw [span_some hr]
      cases hn : spansAt l k q with
      | none => exact spans_none k q hn
      | some y => obtain ⟨rs, e⟩ := y; rw [hn] at h; cases h
theorem spans_some {l : List UInt8} : ∀ (k p : Nat) {rs : List Sp} {q : Nat}, spansAt l k p = some (rs, q) → spansS l k (p, false) = (rs, q, false)
  | 0, p, rs, q, h => by
    simp only [spansAt, Option.some.injEq, Prod.mk.injEq] at h
    obtain ⟨rfl, rfl⟩ := h
    rfl
  | k + 1, p, rs, q, h => by
    rw [spansAt] at h
    rw [spansS, if_neg (by simp)]
    cases hr : numsAt l 3 p with
    | none => rw [hr] at h; cases h
    | some x =>
      obtain ⟨r, e⟩ := x
      rw [hr] at h
      simp only at h
      rw [span_some hr]
      cases hn : spansAt l k e with
      | none => rw [hn] at h; cases h
      | some y =>
        obtain ⟨rs', e'⟩ := y
        rw [hn] at h
        simp only [Option.some.injEq, Prod.mk.injEq] at h
        obtain ⟨rfl, rfl⟩ := h
        simp only [spans_some k e hn]
theorem num_zero {l : List UInt8} (h : getB l 0 = none) : numS l (0, false) = (0, 0, true) := by unfold numS; simp only [Int.natCast_zero, h]
theorem num_zero' {l : List UInt8} {m p : Nat} (h : getB l 0 = some (m, p)) : numS l (0, false) = (m, p, false) := by have := num_some (l := l) (p := 0) h; rw [this, Nat.zero_add]
theorem spansT_bad {l : List UInt8} {s : Nat × Bool} (h : (numS l s).2.2 = true) : (spansT l s).2.2 = true := by rw [spansT, spans_badS _ h]; exact h
theorem bat_none {l : List UInt8} (h : parse l = none) : (batS l (0, false)).2.2 = true := by
  rw [parse] at h
  rw [batS]
  cases h0 : getB l 0 with
  | none =>
    have h2 : runsT l (0, false) = ([], 0, true) := by rw [runsT, num_zero h0]; rfl
    rw [h2]
    exact spansT_bad (num_bad rfl)
  | some x =>
    obtain ⟨m, p⟩ := x
    rw [h0] at h
    simp only at h
    have h2 : runsT l (0, false) = runsS l m (p, false) := by rw [runsT, num_zero' h0]
    rw [h2]
    cases hr : runsAt l m p with
    | none => exact spansT_bad (num_bad (runs_none m p hr))
    | some y =>
      obtain ⟨rs, q⟩ := y
      rw [hr] at h
      simp only at h
      rw [runs_some m p hr]
      cases h5 : getB l q with
      | none => exact spansT_bad (num_none h5)
      | some z =>
        obtain ⟨m', k⟩ := z
        rw [h5] at h
        simp only at h
        have h6 : spansT l (q, false) = spansS l m' (q + k, false) := by rw [spansT, num_some h5]
        simp only
        rw [h6]
        cases h8 : spansAt l m' (q + k) with
        | none => exact spans_none m' (q + k) h8
        | some u => obtain ⟨ds, e⟩ := u; rw [h8] at h; cases h
theorem bat_some {l : List UInt8} {rs : List Rn} {ds : List Sp} {e : Nat} (h : parse l = some (rs, ds, e)) : batS l (0, false) = ((rs, ds), e, false) := by
  rw [parse] at h
  rw [batS]
  cases h0 : getB l 0 with
  | none => rw [h0] at h; cases h
  | some x =>
    obtain ⟨m, p⟩ := x
    rw [h0] at h
    simp only at h
    have h2 : runsT l (0, false) = runsS l m (p, false) := by rw [runsT, num_zero' h0]
    rw [h2]
    cases hr : runsAt l m p with
    | none => rw [hr] at h; cases h
    | some y =>
      obtain ⟨rs', q⟩ := y
      rw [hr] at h
      simp only at h
      rw [runs_some m p hr]
      cases h5 : getB l q with
      | none => rw [h5] at h; cases h
      | some z =>
        obtain ⟨m', k⟩ := z
        rw [h5] at h
        simp only at h
        have h6 : spansT l (q, false) = spansS l m' (q + k, false) := by rw [spansT, num_some h5]
        simp only
        rw [h6]
        cases h8 : spansAt l m' (q + k) with
        | none => rw [h8] at h; cases h
        | some u =>
          obtain ⟨ds', e'⟩ := u
          rw [h8] at h
          simp only [Option.some.injEq, Prod.mk.injEq] at h
          obtain ⟨rfl, rfl, rfl⟩ := h
          rw [spans_some m' (q + k) h8]
theorem nums_len {l : List UInt8} : ∀ (k : Nat) {s : Nat × Bool}, s.1 ≤ l.length → (numsS l k s).2.1 ≤ l.length
  | 0, _, h => h
  | k + 1, s, h => nums_len k (numS_at l s h).1
theorem run_len {l : List UInt8} {s : Nat × Bool} (h : s.1 ≤ l.length) : (runS l s).2.1 ≤ l.length := by rw [run_nums]; exact txtS_at l _ (nums_len 6 h)
theorem span_len {l : List UInt8} {s : Nat × Bool} (h : s.1 ≤ l.length) : (spanS l s).2.1 ≤ l.length := by rw [span_nums]; show (numsS l 3 s).2.1 ≤ l.length; exact nums_len 3 h
theorem run_on {l : List UInt8} {p : Nat} (hp : p ≤ l.length) (h : (runS l (p, false)).2.2 = false) : p + 7 ≤ (runS l (p, false)).2.1 := by
  cases hr : runAt l p with
  | none => rw [run_none hr] at h; cases h
  | some x => obtain ⟨r, q⟩ := x; rw [run_some hr]; exact (runAt_back hp hr).2.2.2
theorem span_on {l : List UInt8} {p : Nat} (hp : p ≤ l.length) (h : (spanS l (p, false)).2.2 = false) : p + 3 ≤ (spanS l (p, false)).2.1 := by
  cases hr : numsAt l 3 p with
  | none => rw [span_none hr] at h; cases h
  | some x => obtain ⟨r, q⟩ := x; rw [span_some hr]; exact (numsAt_back hp hr).2.2.2.2

/-- a block that holds one run, one span -/
def BoxR (W : World) (q : Nat) (r : Rn) : Prop := W.heap[q]? = some (.cells #[.int .u32 r.c, .int .u32 r.k, .int .u32 r.lc, .int .u32 r.lk, .int .u32 r.rc, .int .u32 r.rk, .string ⟨r.t.toArray⟩] 49 (0, 0))
theorem BoxR.new (W : World) (r : Rn) : BoxR (W.alloc (.cells #[.int .u32 r.c, .int .u32 r.k, .int .u32 r.lc, .int .u32 r.lk, .int .u32 r.rc, .int .u32 r.rk, .string ⟨r.t.toArray⟩] 49)) W.heap.size r := heap_alloc_new W _
theorem BoxR.row {W : World} {q : Nat} {r : Rn} (h : BoxR W q r) : RnS W (some ⟨q, 0, none⟩) [r] := fun _ => ⟨q, 0, rfl, fun j u hu => by rw [Nat.zero_add, cell_of_row W q j _ _ _ h]; rw [flat_one] at hu; simpa [encR, encS] using hu⟩
def BoxS6 (W : World) (q : Nat) (r : Sp) : Prop := W.heap[q]? = some (.cells #[.int .u32 r.1, .int .u32 r.2.1, .int .u32 r.2.2] 62 (0, 0))
theorem BoxS6.new (W : World) (r : Sp) : BoxS6 (W.alloc (.cells #[.int .u32 r.1, .int .u32 r.2.1, .int .u32 r.2.2] 62)) W.heap.size r := heap_alloc_new W _
theorem BoxS6.row {W : World} {q : Nat} {r : Sp} (h : BoxS6 W q r) : SpS W (some ⟨q, 0, none⟩) [r] := fun _ => ⟨q, 0, rfl, fun j u hu => by rw [Nat.zero_add, cell_of_row W q j _ _ _ h]; rw [flat_one] at hu; simpa [encR, encS] using hu⟩

theorem OwnS.kept {w W W' : World} {v : Value} {l : List Sp} {row : Option Nat} (h : OwnS w W v l) (hg : W.grownBy W' row) (hn : v.ownBlock = none ∨ v.ownBlock ≠ row) : OwnS w W' v l := World.ownsRow.kept h hg hn
/-- a span is appended, with what becomes of the row's block -/
theorem wpList_append_S2 {w0 w : World} {ops : Array Oper} {rest : List Oper} {o : Oper} {a : Act} {Q : Exit → Act → World → Prop} (hgd : o.guard = none) (s x : Operand)
    (ho : o.op = .call { callee := .builtin .append, args := #[s, x], argTypes := #[23, 23] })
    (v : Value) (l : List Sp) (hs : a.eval s = v) (hown : OwnS w0 w v l) (hx : Ext w0 w)
    (A : Option Addr) (m c : Nat) (r : List Sp) (he : a.eval x = .slice A m c) (hm : r.length = m) (hr : SpS w A r) (hb : l.length + r.length ≤ 100000)
    (h : ∀ v' w', OwnS w0 w' v' (l ++ r) → Ext w0 w' → w.grownBy w' v.ownBlock → (v'.ownBlock = v.ownBlock ∨ v'.ownBlock = some w.heap.size) → wpList Tryd.prog ops Q rest (a.put o.dst v') w') : wpList Tryd.prog ops Q (o :: rest) a w := by
  refine wpList_plain hgd fun K hK => ?_
  obtain ⟨i, hi, hz0, hz1, hz2⟩ := info_parts infoS
  subst hm
  obtain ⟨v', w', hrun, h2, h3, h4⟩ := run_append_rowB (P := Tryd.prog) w w0.heap.size 23 o.type 62 i _ 3 12 Tryd.underlying23 hi hz0 hz1 hz2 rfl (by omega) v l.length _ hown A r.length c _ (flat_len encS_len r) hr (flat_one_cell encS_one r)
    (by unfold maxLen; omega) (by omega) hx.size
  unfold Oper.wp execOp
  simp only [ho, resolve, invoke, builtin, Sem.run_bind, Sem.run_pure, Result.andThen_ok, List.map_toArray, List.map_cons, List.map_nil, hs, he, hrun]
  refine hK _ _ (h v' w' ?_ (hx.grown h3 hown.lt) h3 h4)
  unfold OwnS
  rw [flat_append, List.length_append]
  exact h2

/-- of the blocks below B two may have turned -/
structure GX (B p q : Nat) (w W : World) : Prop where
  os : W.os = w.os
  tape : W.tape = w.tape
  output : W.output = w.output
  size : B ≤ W.heap.size
  block : ∀ k, k < B → k ≠ p → k ≠ q → W.heap[k]? = w.heap[k]?
theorem GX.refl (B p q : Nat) (w : World) (h : B ≤ w.heap.size) : GX B p q w w := ⟨rfl, rfl, rfl, h, fun _ _ _ _ => rfl⟩
theorem GX.on {B p q : Nat} {w W W' : World} {row : Option Nat} (h : GX B p q w W) (g : W.grownBy W' row) (hr : ∀ k, row = some k → B ≤ k ∨ k = p ∨ k = q) : GX B p q w W' := by
  refine ⟨g.os.trans h.os, g.tape.trans h.tape, g.output.trans h.output, Nat.le_trans h.size g.size, fun k hk h1 h2 => ?_⟩
  rw [g.block k (Nat.lt_of_lt_of_le hk h.size) ?_, h.block k hk h1 h2]
  intro e
  rcases hr k e.symm with h3 | h3 | h3
  · omega
  · exact h1 h3
  · exact h2 h3
theorem GX.rx {B p q : Nat} {w W W' : World} (h : GX B p q w W) (g : RX p W W') : GX B p q w W' := h.on g (fun k e => by injection e with e; exact .inr (.inl e.symm))
theorem GX.set {B p q j : Nat} {w W : World} (h : GX B p q w W) (u : Value) : GX B p q w (W.setCell ⟨q, j, none⟩ u) := h.on (RX.set (RX.refl q W) j u (.inr rfl)) (fun k e => by injection e with e; exact .inr (.inr e.symm))
theorem GX.down {B p q : Nat} {w0 w W : World} (h : GX B p q w W) (hx : Ext w0 w) (hB : w.heap.size ≤ B) (hp : w0.heap.size ≤ p) (hq : w0.heap.size ≤ q) : Ext w0 W := by
  refine ⟨h.os.trans (RowKit.Below.os hx), h.tape.trans (RowKit.Below.tape hx), h.output.trans (RowKit.Below.output hx), by have := hx.size; have := h.size; omega, fun k hk => ?_⟩
  rw [h.block k (by have := hx.size; omega) (by omega) (by omega)]
  exact RowKit.Below.block hx k hk
theorem GX.toRX {B p q : Nat} {W w1 Z : World} (h : GX B p q w1 Z) (hx : Ext W w1) (hB : W.heap.size ≤ B) (hq : W.heap.size ≤ q) : RX p W Z := by
  refine ⟨h.os.trans (RowKit.Below.os hx), h.tape.trans (RowKit.Below.tape hx), h.output.trans (RowKit.Below.output hx), Nat.le_trans hB h.size, fun k hk hne => ?_⟩
  rw [h.block k (by omega) (fun e => hne (by rw [e])) (by omega)]
  exact RowKit.Below.block hx k hk
/-- a row's block is none of those below B -/
def far (B : Nat) (v : Value) : Prop := ∀ k, v.ownBlock = some k → B ≤ k
theorem far.nil (B : Nat) : far B (.slice none 0 0) := fun k hk => by cases hk
theorem far.mono {B C : Nat} {v : Value} (h : far B v) (hc : C ≤ B) : far C v := fun k hk => Nat.le_trans hc (h k hk)
theorem far.ne {B k : Nat} {v : Value} (h : far B v) (hk : k < B) : v.ownBlock = none ∨ v.ownBlock ≠ some k := .inr fun e => by have := h k e; omega
theorem far.on {B n : Nat} {v v' : Value} (h : far B v) (b : v'.ownBlock = v.ownBlock ∨ v'.ownBlock = some n) (hn : B ≤ n) : far B v' := fun k hk => by
  rcases b with e | e
  · exact h k (by rw [← e]; exact hk)
  · rw [e] at hk; injection hk with hk; omega

/-- what the slots hold -/
def brnTab (p q3 : Nat) (v : Value) (r : Rn) : SoftTab := [(19, fun z9 W => z9 = .pointer (some ⟨q3, 0, none⟩)),
  (20, fun z9 W => z9 = v),
  (21, fun z9 W => z9 = .pointer (some ⟨p, 0, none⟩)),
  (22, fun z9 W => z9 = rnv r),
  (23, fun z9 W => ∃ q, z9 = .slice (some ⟨q, 0, none⟩) 1 1 ∧ q ≠ p ∧ BoxR W q r)]
theorem brnTab_mono (p q3 : Nat) (v : Value) (r : Rn) : SoftMonoR (RX p) (brnTab p q3 v r) := by
  intro x hp v' W W' h hx
  simp only [brnTab, List.mem_cons, List.not_mem_nil, or_false] at hp
  rcases hp with rfl | rfl | rfl | rfl | rfl
  all_goals first
    | exact h
    | (obtain ⟨q, h1, h2, h3⟩ := h
       exact ⟨q, h1, h2, RX.blk hx h3 h2⟩)
/-- what the slots hold -/
def bsnTab (p q3 : Nat) (v : Value) (r : Sp) : SoftTab := [(39, fun z9 W => z9 = .pointer (some ⟨q3, 1, none⟩)),
  (40, fun z9 W => z9 = v),
  (41, fun z9 W => z9 = .pointer (some ⟨p, 0, none⟩)),
  (42, fun z9 W => z9 = spv r.1 r.2.1 r.2.2),
  (43, fun z9 W => ∃ q, z9 = .slice (some ⟨q, 0, none⟩) 1 1 ∧ q ≠ p ∧ BoxS6 W q r)]
theorem bsnTab_mono (p q3 : Nat) (v : Value) (r : Sp) : SoftMonoR (RX p) (bsnTab p q3 v r) := by
  intro x hp v' W W' h hx
  simp only [bsnTab, List.mem_cons, List.not_mem_nil, or_false] at hp
  rcases hp with rfl | rfl | rfl | rfl | rfl
  all_goals first
    | exact h
    | (obtain ⟨q, h1, h2, h3⟩ := h
       exact ⟨q, h1, h2, RX.blk hx h3 h2⟩)

section
variable {w0 W : World} {p : Nat} {A : Option Addr} {n c : Nat} {l : List UInt8} {s : Nat × Bool}

/-- what the first loop keeps -/
def Loop1 (w0 w1 : World) (B p q3 : Nat) (A : Option Addr) (n c : Nat) (l : List UInt8) (R : List Rn × Nat × Bool) (v4 : Value) (W : World) : Prop :=
  ∃ (k : Nat) (s : Nat × Bool) (o : List Rn) (v : Value), v4 = Vu k ∧ k < 4294967296 ∧ RdS W p A n c s ∧ W.heap[q3]? = some (.cells #[v, .slice none 0 0] 25 (0, 0)) ∧ Hid (OwnR w0 W v o) ∧ Hid (far B v) ∧ GX B p q3 w1 W ∧ s.1 ≤ n ∧ (s.2 = false → o.length ≤ s.1) ∧ o.length ≤ n + 1 ∧ Hid ((o ++ (runsS l k s).1, (runsS l k s).2) = R)
/-- what the second loop keeps -/
def Loop2 (w0 w1 : World) (B p q3 : Nat) (A : Option Addr) (n c : Nat) (l : List UInt8) (R : List Sp × Nat × Bool) (vr : Value) (rs : List Rn) (v4 : Value) (W : World) : Prop :=
  ∃ (k : Nat) (s : Nat × Bool) (o : List Sp) (v : Value), v4 = Vu k ∧ k < 4294967296 ∧ RdS W p A n c s ∧ W.heap[q3]? = some (.cells #[vr, v] 25 (0, 0)) ∧ Hid (OwnS w0 W v o) ∧ Hid (far B v) ∧ Hid (OwnR w0 W vr rs) ∧ (vr.ownBlock = none ∨ vr.ownBlock ≠ v.ownBlock) ∧ GX B p q3 w1 W ∧ s.1 ≤ n ∧ (s.2 = false → o.length ≤ s.1) ∧ o.length ≤ n + 1 ∧ Hid ((o ++ (spansS l k s).1, (spansS l k s).2) = R)

set_option maxRecDepth 100000 in
set_option maxHeartbeats 16000000 in
theorem rdBat_any (hx : Ext w0 W) (hp : w0.heap.size ≤ p) (hb : Bys w0 A l) (hl : l.length = n) (hc : n ≤ c) (hn : n ≤ 30000) (hT : Tabs w0) (hs : RdS W p A n c s) (hat : s.1 ≤ n) :
    Calls Tryd.prog 27 #[.pointer (some ⟨p, 0, none⟩)] W fun e w' => ∃ vr vd, e = .returned (.agg #[vr, vd]) ∧ OwnR w0 w' vr (batS l s).1.1 ∧ OwnS w0 w' vd (batS l s).1.2 ∧ far W.heap.size vr ∧ far W.heap.size vd ∧ RdS w' p A n c (batS l s).2 ∧ RX p W w' := by
  have hplt := hs.lt
  obtain ⟨w1, hw1⟩ : ∃ W1, (W.alloc (.cells #[.slice none 0 0, .slice none 0 0] 25)).alloc (.cells #[.slice none 0 0, .slice none 0 0] 25) = W1 := ⟨_, rfl⟩
  have hsz : (W.alloc (.cells #[.slice none 0 0, .slice none 0 0] 25)).heap.size = W.heap.size + 1 := by simp
  have hB : w1.heap.size = W.heap.size + 2 := by rw [← hw1]; simp
  have x1 : Ext W w1 := by rw [← hw1]; exact ((Ext.refl _).alloc _).alloc _
  have hq3 : w1.heap[W.heap.size + 1]? = some (.cells #[.slice none 0 0, .slice none 0 0] 25 (0, 0)) := by
    rw [← hw1, ← hsz]; exact heap_alloc_new _ _
  have hq2 : w1.heap[W.heap.size]? = some (.cells #[.slice none 0 0, .slice none 0 0] 25 (0, 0)) := by
    rw [← hw1, RowKit.Below.block ((Ext.refl (W.alloc (.cells #[.slice none 0 0, .slice none 0 0] 25))).alloc _) W.heap.size (by omega)]; exact heap_alloc_new _ _
  have hs1 := hs.ext x1
  have hnum := Lib.hid (fun (W' : World) (s' : Nat × Bool) (hX : Ext w0 W') (hS : RdS W' p A n c s') (ha : s'.1 ≤ n) => rdNum_any hX hp hb hl hc hn hS ha)
  have hrunc := Lib.hid (fun (W' : World) (s' : Nat × Bool) (hX : Ext w0 W') (hS : RdS W' p A n c s') (ha : s'.1 ≤ n) => rdRun_any hX hp hb hl hc hn hT hS ha)
  have hspanc := Lib.hid (fun (W' : World) (s' : Nat × Bool) (hX : Ext w0 W') (hS : RdS W' p A n c s') (ha : s'.1 ≤ n) => rdSpan_any hX hp hb hl hc hn hS ha)
  have hX1 : Ext w0 w1 := hx.trans x1
  have hw0 : w0.heap.size ≤ W.heap.size := hx.size
  obtain ⟨R, hR⟩ : ∃ R, runsT l s = R := ⟨_, rfl⟩
  obtain ⟨D, hD⟩ : ∃ D, spansT l R.2 = D := ⟨_, rfl⟩
  have hbat : batS l s = ((R.1, D.1), D.2) := by rw [batS, hR, hD]
  rw [hbat]
  have hna := numS_at l s (by rw [hl]; exact hat)
  rw [hl] at hna
  replace hR := Lib.hid (show ([] ++ (runsS l (numS l s).1 (numS l s).2).1, (runsS l (numS l s).1 (numS l s).2).2) = R from hR)
  replace hD := Lib.hid hD
  have hc1 := Lib.hid (hnum.out w1 s hX1 hs1 hat)
  clear hbat hs hsz hb hT
  generalize numS l s = sa at *
  obtain ⟨a, sa⟩ := sa
  simp only at hna hR hc1
  go_enter Tryd.func27, Tryd.ntmps27
  go_wp2_with fail
  clear hw1
  obtain ⟨q2, hq2d⟩ : ∃ q, W.heap.size = q := ⟨_, rfl⟩
  rw [hq2d] at hplt hB hq3 hq2 hw0 ⊢
  obtain ⟨B, hBd⟩ : ∃ B, w1.heap.size = B := ⟨_, rfl⟩
  have hB2 : B = q2 + 2 := by omega
  have hq3p : q2 + 1 ≠ p := by omega
  have hq2p : q2 ≠ p := by omega
  obtain ⟨q3, hq3d⟩ : ∃ q, q2 + 1 = q := ⟨_, rfl⟩
  rw [hq3d] at hq3 hq3p ⊢
  have hend : ∀ (Z : World) (hG : GX B p q3 w1 Z), Ext w0 Z := fun Z hG => hG.down hX1 (by omega) hp (by omega)
  replace hend := Lib.hid hend
  refine hc1.out.mono ?_
  rintro e w2 ⟨rfl, s2, g2⟩
  clear hc1
  have hq3' := g2.blk hq3 hq3p
  have hG2 : GX B p q3 w1 w2 := (GX.refl B p q3 w1 (by omega)).rx g2
  go_wp2
  go_loopw [4] (Loop1 w0 w1 B p q3 A n c l R) (fun v _ => (intOf v).toNat)
  case atStart => exact ⟨a, sa, [], .slice none 0 0, rfl, hna.2, s2, hq3', Lib.hid (OwnR.nil _ _), Lib.hid (far.nil _), hG2, hna.1, fun _ => by simp, by simp, hR⟩
  case round =>
    clear s2 g2 hq3' hG2 hR hq3 hs1
    obtain ⟨k, s', o, v, rfl, hk, hS, hq, ho, hf, hG, hat', hlen, hlen2, hrel⟩ := hrel
    have hE : Ext w0 wr := hend.out _ hG
    obtain ⟨e0, e1, _, _⟩ := blk2 hq
    obtain ⟨_, _, d2, _, _⟩ := hS.cells
    by_cases hgo : 0 < k ∧ s'.2 = false
    · obtain ⟨hk0, hs2⟩ := hgo
      obtain ⟨at', b⟩ := s'
      simp only at hs2 d2 hat' hlen
      subst hs2
      obtain ⟨k, rfl⟩ : ∃ j, k = j + 1 := ⟨k - 1, by omega⟩
      have hg1 : decide ((0 : Int) < ((k + 1 : Nat) : Int)) = true := by rw [decide_eq_true_eq]; omega
      have hg2 : decide ((0 : Int) < (k : Int) + 1) = true := by rw [decide_eq_true_eq]; omega
      have hrun := Lib.hid (fun (W' : World) (hX : Ext w0 W') (hS' : RdS W' p A n c (at', false)) => hrunc.out W' (at', false) hX hS' hat')
      have hrl := run_len (l := l) (s := (at', false)) (by rw [hl]; exact hat')
      have hon : (runS l (at', false)).2.2 = false → at' + 7 ≤ (runS l (at', false)).2.1 := fun h => run_on (by rw [hl]; exact hat') h
      have hst : (runsS l (k + 1) (at', false)) = ((runS l (at', false)).1 :: (runsS l k (runS l (at', false)).2).1, (runsS l k (runS l (at', false)).2).2) := by rw [runsS, if_neg (by simp)]
      have hrel2 := Lib.hid (show (o ++ [(runS l (at', false)).1] ++ (runsS l k (runS l (at', false)).2).1, (runsS l k (runS l (at', false)).2).2) = R by rw [← hrel.out, hst]; simp)
      have hol := hlen rfl
      clear hst hrel hlen
      rw [hl] at hrl
      generalize runS l (at', false) = x at *
      obtain ⟨r, sx⟩ := x
      simp only at hrun hrl hon hrel2
      have hX : Ext w0 wr := hE
      have hcell : wr.cell? ⟨q3, 0, none⟩ = some v := e0
      have hpw : p < wr.heap.size := hS.lt
      have hq3w : q3 < wr.heap.size := (Array.getElem?_eq_some_iff.1 hq).1
      have hpB : p < B := by omega
      have hq3B : q3 < B := by omega
      go_wp2_with fail
      refine wp_soft_frameP (RX p) 3 (fun W => RdS W p A n c (at', false)) (fun W => RdS W p A n c sx) 5 (brnTab p q3 v r) (by kernel_rfl) (by kernel_rfl) (fun _ _ _ => RX.trans) (fun _ _ => RX.ext) (fun _ _ h hh => hh.ext h) (fun _ _ h hh => hh.ext h) (by omega) hS rfl (by show List.Nodup [19, 20, 21, 22, 23]; decide) (by show ∀ d ∈ [19, 20, 21, 22, 23], d < 47; decide) (brnTab_mono p q3 v r) ?_ ⟨?_, ?_, ?_, ?_, ?_, trivial⟩
      · intro W' vs hT' hRx hPost
        match vs, hT' with
        | [v0, v1, v2, v3, v4], ⟨e0, e1, e2, e3, e4, _⟩ =>
          simp only [brnTab, List.map_cons, List.map_nil, List.zip_cons_cons, List.zip_nil_left, putAll, List.setIfInBounds_toArray, List.set_cons_zero, List.set_cons_succ, List.drop_succ_cons, List.drop_zero]
          simp only at e0 e1 e2 e3 e4
          obtain ⟨qb, e4, hqb, hbox⟩ := e4
          rw [e0, e1, e2, e3, e4]
          clear e0 e1 e2 e3 e4 v0 v1 v2 v3 v4 hT' hcell
          have hE' : Ext w0 W' := RX.down hX hp hRx
          have hqW := hRx.blk hq hq3p
          have hlt' := Nat.lt_of_lt_of_le hq3w hRx.size
          have hpt' := Nat.lt_of_lt_of_le hpw hRx.size
          refine wpList_append_R (w0 := w0) rfl (.tmp 20) (.tmp 23) rfl v o rfl (ho.out.kept hRx (hf.out.ne hpB)) hE' _ 1 1 [r] rfl rfl hbox.row (by simp only [List.length_cons, List.length_nil]; omega) ?_
          intro v5 w5 o5 x5 g5 b5
          obtain ⟨A5, c5, hv5, _, _⟩ := OwnR.open o5
          rw [show (o ++ [r]).length = o.length + 1 by simp] at hv5
          subst hv5
          have hneq : ∀ j, j < B → some j ≠ v.ownBlock := fun j hj e => by have := hf.out j e.symm; omega
          have hq5 : w5.heap[q3]? = some (.cells #[v, .slice none 0 0] 25 (0, 0)) := by rw [g5.block q3 hlt' (hneq q3 hq3B)]; exact hqW
          have hp5 : RdS w5 p A n c sx := by unfold RdS at hPost ⊢; rw [g5.block p hpt' (hneq p hpB)]; exact hPost
          obtain ⟨c0, c1, f0, f1⟩ := blk2 hq5
          have hf5 := far.on hf.out b5 (by have := hG.size; have := hRx.size; omega)
          have hst5 : RX q3 w5 (w5.setCell ⟨q3, 0, none⟩ (.slice A5 (o.length + 1) c5)) := RX.set (RX.refl q3 w5) 0 _ (.inr rfl)
          have hsub : IntKind.u32.wrap (((k + 1 : Nat) : Int) - 1) = (k : Int) := by rw [show (((k + 1 : Nat) : Int) - 1) = (k : Int) by omega]; exact IntWalk.u32_in _ (by omega)
          have hsub2 : IntKind.u32.wrap ((k : Int) + 1 - 1) = (k : Int) := by rw [show ((k : Int) + 1 - 1) = (k : Int) by omega]; exact IntWalk.u32_in _ (by omega)
          have hrel5 : Loop1 w0 w1 B p q3 A n c l R (Vu k) (w5.setCell ⟨q3, 0, none⟩ (.slice A5 (o.length + 1) c5)) :=
            ⟨k, sx, o ++ [r], _, rfl, by omega, by unfold RdS at hp5 ⊢; rw [heap_setCell_other _ _ _ _ (fun e => hq3p e.symm)]; exact hp5, heap_setCell_same _ _ 0 _ _ _ hq5, Lib.hid (o5.kept hst5 (hf5.ne hq3B)), Lib.hid hf5, ((hG.rx hRx).on g5 (fun j e => .inl (hf.out j e))).set _, hrl,
              fun h => by have := hon h; simp only [List.length_append, List.length_cons, List.length_nil]; omega, by simp only [List.length_append, List.length_cons, List.length_nil]; omega, hrel2⟩
          replace hrel5 := Lib.hid hrel5
          clear hp5 hst5 hq5 hqW ho hf hG hPost hS hq hbox
          go_wp2
          go_roundw
          case rel => exact hrel5.out
          case measure => simp [intOf]; try omega
      · refine softP_val 19 _ (by kernel_rfl) rfl rfl ?_
        intro a W hx hout hdep
        have ev3 : a.tmps[3]?.getD undef = .pointer (some ⟨q3, 0, none⟩) := by rw [← Array.getD_eq_getD_getElem?]; exact hout 3 (by show 3 ∉ [19, 20, 21, 22, 23]; decide)
        refine ⟨rfl, .pointer (some ⟨q3, 0, none⟩), W, ?_, rfl, Ext.refl _⟩
        simp [ev3, execOp, go_sem]
      · refine softP_val 20 _ (by kernel_rfl) rfl rfl ?_
        intro a W hx hout hdep
        have ev19 : a.tmps[19]?.getD undef = .pointer (some ⟨q3, 0, none⟩) := by rw [← Array.getD_eq_getD_getElem?]; exact (hdep ⟨0, .data⟩ (by simp) rfl 19 _ rfl).1
        have q0 := RX.cell hx hcell hq3p
        refine ⟨rfl, v, W, ?_, rfl, Ext.refl _⟩
        simp [ev19, q0, execOp, go_sem]
      · refine softP_val 21 _ (by kernel_rfl) rfl rfl ?_
        intro a W hx hout hdep
        have ev0 : a.tmps[0]?.getD undef = .pointer (some ⟨p, 0, none⟩) := by rw [← Array.getD_eq_getD_getElem?]; exact hout 0 (by show 0 ∉ [19, 20, 21, 22, 23]; decide)
        refine ⟨rfl, .pointer (some ⟨p, 0, none⟩), W, ?_, rfl, Ext.refl _⟩
        simp [ev0, execOp, go_sem]
      · refine softC_call 22 _ (by kernel_rfl) rfl rfl ?_
        intro a W hx hpre hout hdep
        have ev21 : a.tmps[21]?.getD undef = .pointer (some ⟨p, 0, none⟩) := by rw [← Array.getD_eq_getD_getElem?]; exact (hdep ⟨2, .data⟩ (by simp) rfl 21 _ rfl).1
        refine ⟨rfl, 39, #[.pointer (some ⟨p, 0, none⟩)], ?_, ?_⟩
        · simp [ev21, execOp, go_sem]
        · exact (hrun.out W (RX.down hX hp hx) hpre).mono (by rintro e W1 ⟨rfl, h1, h2⟩; exact ⟨_, rfl, rfl, h2, h1⟩)
      · refine softP_val 23 _ (by kernel_rfl) rfl rfl ?_
        intro a W hx hout hdep
        have ev22 : a.tmps[22]?.getD undef = rnv r := by rw [← Array.getD_eq_getD_getElem?]; exact (hdep ⟨3, .data⟩ (by simp) rfl 22 _ rfl).1
        have hlt : p < W.heap.size := Nat.lt_of_lt_of_le hpw hx.size
        refine ⟨rfl, .slice (some ⟨W.heap.size, 0, none⟩) 1 1, _, ?_, ⟨_, rfl, by omega, BoxR.new W r⟩, (Ext.refl W).alloc _⟩
        simp [ev22, execOp, go_sem]
    · have hfin : (o, s') = R := by
        rw [← hrel.out]
        rcases Nat.eq_zero_or_pos k with h | h
        · subst h; simp [runsS]
        · have : s'.2 = true := by cases hb' : s'.2 with
            | true => rfl
            | false => exact absurd ⟨h, hb'⟩ hgo
          rw [runs_badS k this]; simp
      have hgo' : k = 0 ∨ (0 < k ∧ s'.2 = true) := by
        rcases Nat.eq_zero_or_pos k with h | h
        · exact .inl h
        · refine .inr ⟨h, ?_⟩
          cases hb' : s'.2 with
          | true => rfl
          | false => exact absurd ⟨h, hb'⟩ hgo
      subst hfin
      have hc2 := Lib.hid (hnum.out wr s' hE hS hat')
      have hnb := numS_at l s' (by rw [hl]; exact hat')
      rw [hl] at hnb
      have hD' := Lib.hid (show ([] ++ (spansS l (numS l s').1 (numS l s').2).1, (spansS l (numS l s').1 (numS l s').2).2) = D from hD.out)
      clear hD hrel hlen
      generalize numS l s' = sb at *
      obtain ⟨ab, sb⟩ := sb
      simp only at hc2 hnb hD'
      have hg0 : k = 0 → decide ((0 : Int) < (k : Int)) = false := fun h => by subst h; rfl
      have hg1 : 0 < k → decide ((0 : Int) < (k : Int)) = true := fun h => by rw [decide_eq_true_eq]; omega
      rcases hgo' with h0 | ⟨h0, hbad⟩
      · subst h0
        go_wp2_with fail
        refine hc2.out.mono ?_
        rintro e w3 ⟨rfl, s3, g3⟩
        have hq3' := g3.blk hq hq3p
        have hG3 := hG.rx g3
        have hpB : p < B := by omega
        have hq3B : q3 < B := by omega
        have hq2B : q2 < B := by omega
        have ho3 := ho.out.kept g3 (hf.out.ne hpB)
        clear hc2 ho
        go_wp2
        go_loopw [5] (Loop2 w0 w1 B p q3 A n c l D v o) (fun v _ => (intOf v).toNat)
        case atStart => exact ⟨ab, sb, [], .slice none 0 0, rfl, hnb.2, s3, hq3', Lib.hid (OwnS.nil _ _), Lib.hid (far.nil _), Lib.hid ho3, (by cases h : v.ownBlock with
            | none => exact .inl rfl
            | some g => exact .inr (fun e => by cases e)), hG3, hnb.1, fun _ => by simp, by simp, hD'⟩
        case round =>
          clear s3 g3 hq3' hG3 hD' ho3 hS hq hE e0 e1 d2 hat' hlen2 hG
          obtain ⟨k, s', o2, v2, rfl, hk, hS, hq, ho2, hf2, ho, hdis, hG, hat', hlen, hlen2, hrel⟩ := hrel
          have hE : Ext w0 wr := hend.out _ hG
          obtain ⟨e0, e1, _, _⟩ := blk2 hq
          obtain ⟨_, _, d2, _, _⟩ := hS.cells
          by_cases hgo : 0 < k ∧ s'.2 = false
          · obtain ⟨hk0, hs2⟩ := hgo
            obtain ⟨at', b⟩ := s'
            simp only at hs2 d2 hat' hlen
            subst hs2
            obtain ⟨k, rfl⟩ : ∃ j, k = j + 1 := ⟨k - 1, by omega⟩
            have hg1 : decide ((0 : Int) < ((k + 1 : Nat) : Int)) = true := by rw [decide_eq_true_eq]; omega
            have hg2 : decide ((0 : Int) < (k : Int) + 1) = true := by rw [decide_eq_true_eq]; omega
            have hrun := Lib.hid (fun (W' : World) (hX : Ext w0 W') (hS' : RdS W' p A n c (at', false)) => hspanc.out W' (at', false) hX hS' hat')
            have hrl := span_len (l := l) (s := (at', false)) (by rw [hl]; exact hat')
            have hon : (spanS l (at', false)).2.2 = false → at' + 3 ≤ (spanS l (at', false)).2.1 := fun h => span_on (by rw [hl]; exact hat') h
            have hst : (spansS l (k + 1) (at', false)) = ((spanS l (at', false)).1 :: (spansS l k (spanS l (at', false)).2).1, (spansS l k (spanS l (at', false)).2).2) := by rw [spansS, if_neg (by simp)]
            have hrel2 := Lib.hid (show (o2 ++ [(spanS l (at', false)).1] ++ (spansS l k (spanS l (at', false)).2).1, (spansS l k (spanS l (at', false)).2).2) = D by rw [← hrel.out, hst]; simp)
            have hol := hlen rfl
            clear hst hrel hlen
            rw [hl] at hrl
            generalize spanS l (at', false) = x at *
            obtain ⟨r, sx⟩ := x
            simp only at hrun hrl hon hrel2
            have hX : Ext w0 wr := hE
            have hcell : wr.cell? ⟨q3, 1, none⟩ = some v2 := e1
            have hpw : p < wr.heap.size := hS.lt
            have hq3w : q3 < wr.heap.size := (Array.getElem?_eq_some_iff.1 hq).1
            have hv := v2
            go_wp2_with fail
            refine wp_soft_frameP (RX p) 3 (fun W => RdS W p A n c (at', false)) (fun W => RdS W p A n c sx) 5 (bsnTab p q3 v2 r) (by kernel_rfl) (by kernel_rfl) (fun _ _ _ => RX.trans) (fun _ _ => RX.ext) (fun _ _ h hh => hh.ext h) (fun _ _ h hh => hh.ext h) (by omega) hS rfl (by show List.Nodup [39, 40, 41, 42, 43]; decide) (by show ∀ d ∈ [39, 40, 41, 42, 43], d < 47; decide) (bsnTab_mono p q3 v2 r) ?_ ⟨?_, ?_, ?_, ?_, ?_, trivial⟩
            · intro W' vs hT' hRx hPost
              match vs, hT' with
              | [v0, v1, v2', v3, v4], ⟨e0, e1, e2, e3, e4, _⟩ =>
                simp only [bsnTab, List.map_cons, List.map_nil, List.zip_cons_cons, List.zip_nil_left, putAll, List.setIfInBounds_toArray, List.set_cons_zero, List.set_cons_succ, List.drop_succ_cons, List.drop_zero]
                simp only at e0 e1 e2 e3 e4
                obtain ⟨qb, e4, hqb, hbox⟩ := e4
                rw [e0, e1, e2, e3, e4]
                clear e0 e1 e2 e3 e4 v0 v1 v2' v3 v4 hT' hcell
                have hE' : Ext w0 W' := RX.down hX hp hRx
                have hqW := hRx.blk hq hq3p
                have hlt' := Nat.lt_of_lt_of_le hq3w hRx.size
                have hpt' := Nat.lt_of_lt_of_le hpw hRx.size
                have hoW := ho.out.kept hRx (hf.out.ne hpB)
                have hoWlt := OwnR.lt hoW
                refine wpList_append_S2 (w0 := w0) rfl (.tmp 40) (.tmp 43) rfl v2 o2 rfl (ho2.out.kept hRx (hf2.out.ne hpB)) hE' _ 1 1 [r] rfl rfl hbox.row (by simp only [List.length_cons, List.length_nil]; omega) ?_
                intro v5 w5 o5 x5 g5 b5
                obtain ⟨A5, c5, hv5⟩ := OwnS.form o5
                rw [show (o2 ++ [r]).length = o2.length + 1 by simp] at hv5
                subst hv5
                have hneq : ∀ j, j < B → some j ≠ v2.ownBlock := fun j hj e => by have := hf2.out j e.symm; omega
                have hq5 : w5.heap[q3]? = some (.cells #[v, v2] 25 (0, 0)) := by rw [g5.block q3 hlt' (hneq q3 hq3B)]; exact hqW
                have hp5 : RdS w5 p A n c sx := by unfold RdS at hPost ⊢; rw [g5.block p hpt' (hneq p hpB)]; exact hPost
                have hr5 := hoW.kept g5 hdis
                obtain ⟨c0, c1, f0, f1⟩ := blk2 hq5
                have hf5 := far.on hf2.out b5 (by have := hG.size; have := hRx.size; omega)
                have hdis5 : v.ownBlock = none ∨ v.ownBlock ≠ (Value.slice A5 (o2.length + 1) c5).ownBlock := by
                  rcases hdis with h | h
                  · exact .inl h
                  · rcases b5 with b5 | b5
                    · exact .inr (by rw [b5]; exact h)
                    · rw [b5]
                      rcases hob : v.ownBlock with _ | g
                      · exact .inl rfl
                      · refine .inr fun he => ?_
                        injection he with he
                        have := (hoWlt g hob).2
                        omega
                have hst5 : RX q3 w5 (w5.setCell ⟨q3, 1, none⟩ (.slice A5 (o2.length + 1) c5)) := RX.set (RX.refl q3 w5) 1 _ (.inr rfl)
                have hsub : IntKind.u32.wrap (((k + 1 : Nat) : Int) - 1) = (k : Int) := by rw [show (((k + 1 : Nat) : Int) - 1) = (k : Int) by omega]; exact IntWalk.u32_in _ (by omega)
                have hsub2 : IntKind.u32.wrap ((k : Int) + 1 - 1) = (k : Int) := by rw [show ((k : Int) + 1 - 1) = (k : Int) by omega]; exact IntWalk.u32_in _ (by omega)
                have hrel5 : Loop2 w0 w1 B p q3 A n c l D v o (Vu k) (w5.setCell ⟨q3, 1, none⟩ (.slice A5 (o2.length + 1) c5)) :=
                  ⟨k, sx, o2 ++ [r], _, rfl, by omega, by unfold RdS at hp5 ⊢; rw [heap_setCell_other _ _ _ _ (fun e => hq3p e.symm)]; exact hp5, heap_setCell_same _ _ 1 _ _ _ hq5, Lib.hid (o5.kept hst5 (hf5.ne hq3B)), Lib.hid hf5, Lib.hid (hr5.kept hst5 (hf.out.ne hq3B)), hdis5, ((hG.rx hRx).on g5 (fun j e => .inl (hf2.out j e))).set _, hrl,
                    fun h => by have := hon h; simp only [List.length_append, List.length_cons, List.length_nil]; omega, by simp only [List.length_append, List.length_cons, List.length_nil]; omega, hrel2⟩
                replace hrel5 := Lib.hid hrel5
                clear hp5 hst5 hq5 hqW ho2 hf2 hG hPost hS hq hbox hr5 hoW ho
                go_wp2
                go_roundw
                case rel => exact hrel5.out
                case measure => simp [intOf]
            · refine softP_val 39 _ (by kernel_rfl) rfl rfl ?_
              intro a W hx hout hdep
              have ev3 : a.tmps[3]?.getD undef = .pointer (some ⟨q3, 0, none⟩) := by rw [← Array.getD_eq_getD_getElem?]; exact hout 3 (by show 3 ∉ [39, 40, 41, 42, 43]; decide)
              refine ⟨rfl, .pointer (some ⟨q3, 1, none⟩), W, ?_, rfl, Ext.refl _⟩
              simp [ev3, execOp, go_sem]
            · refine softP_val 40 _ (by kernel_rfl) rfl rfl ?_
              intro a W hx hout hdep
              have ev39 : a.tmps[39]?.getD undef = .pointer (some ⟨q3, 1, none⟩) := by rw [← Array.getD_eq_getD_getElem?]; exact (hdep ⟨0, .data⟩ (by simp) rfl 39 _ rfl).1
              have q0 := RX.cell hx hcell hq3p
              refine ⟨rfl, v2, W, ?_, rfl, Ext.refl _⟩
              simp [ev39, q0, execOp, go_sem]
            · refine softP_val 41 _ (by kernel_rfl) rfl rfl ?_
              intro a W hx hout hdep
              have ev0 : a.tmps[0]?.getD undef = .pointer (some ⟨p, 0, none⟩) := by rw [← Array.getD_eq_getD_getElem?]; exact hout 0 (by show 0 ∉ [39, 40, 41, 42, 43]; decide)
              refine ⟨rfl, .pointer (some ⟨p, 0, none⟩), W, ?_, rfl, Ext.refl _⟩
              simp [ev0, execOp, go_sem]
            · refine softC_call 42 _ (by kernel_rfl) rfl rfl ?_
              intro a W hx hpre hout hdep
              have ev41 : a.tmps[41]?.getD undef = .pointer (some ⟨p, 0, none⟩) := by rw [← Array.getD_eq_getD_getElem?]; exact (hdep ⟨2, .data⟩ (by simp) rfl 41 _ rfl).1
              refine ⟨rfl, 40, #[.pointer (some ⟨p, 0, none⟩)], ?_, ?_⟩
              · simp [ev41, execOp, go_sem]
              · exact (hrun.out W (RX.down hX hp hx) hpre).mono (by rintro e W1 ⟨rfl, h1, h2⟩; exact ⟨_, rfl, rfl, h2, h1⟩)
            · refine softP_val 43 _ (by kernel_rfl) rfl rfl ?_
              intro a W hx hout hdep
              have ev42 : a.tmps[42]?.getD undef = spv r.1 r.2.1 r.2.2 := by rw [← Array.getD_eq_getD_getElem?]; exact (hdep ⟨3, .data⟩ (by simp) rfl 42 _ rfl).1
              have hlt : p < W.heap.size := Nat.lt_of_lt_of_le hpw hx.size
              refine ⟨rfl, .slice (some ⟨W.heap.size, 0, none⟩) 1 1, _, ?_, ⟨_, rfl, by omega, BoxS6.new W r⟩, (Ext.refl W).alloc _⟩
              simp [ev42, execOp, go_sem]
          · have hfin : (o2, s') = D := by
              rw [← hrel.out]
              rcases Nat.eq_zero_or_pos k with h | h
              · subst h; simp [spansS]
              · have : s'.2 = true := by cases hb' : s'.2 with
                  | true => rfl
                  | false => exact absurd ⟨h, hb'⟩ hgo
                rw [spans_badS k this]; simp
            have hgo' : k = 0 ∨ (0 < k ∧ s'.2 = true) := by
              rcases Nat.eq_zero_or_pos k with h | h
              · exact .inl h
              · refine .inr ⟨h, ?_⟩
                cases hb' : s'.2 with
                | true => rfl
                | false => exact absurd ⟨h, hb'⟩ hgo
            subst hfin
            obtain ⟨Ar, cr, hvr, _, _⟩ := OwnR.open ho.out
            obtain ⟨Ad, cd, hvd⟩ := OwnS.form ho2.out
            have hq2w : wr.heap[q2]? = some (.cells #[.slice none 0 0, .slice none 0 0] 25 (0, 0)) := by rw [hG.block q2 hq2B hq2p (by omega)]; exact hq2
            have hr1 : OwnR w0 ((wr.setCell ⟨q2, 0, none⟩ v).setCell ⟨q2, 1, none⟩ v2) v o := (ho.out.kept (RX.set (RX.refl q2 wr) 0 v (.inr rfl)) (hf.out.ne hq2B)).kept (RX.set (RX.refl q2 _) 1 v2 (.inr rfl)) (hf.out.ne hq2B)
            have hr2 : OwnS w0 ((wr.setCell ⟨q2, 0, none⟩ v).setCell ⟨q2, 1, none⟩ v2) v2 o2 := (ho2.out.kept (RX.set (RX.refl q2 wr) 0 v (.inr rfl)) (hf2.out.ne hq2B)).kept (RX.set (RX.refl q2 _) 1 v2 (.inr rfl)) (hf2.out.ne hq2B)
            have hr3 : RdS ((wr.setCell ⟨q2, 0, none⟩ v).setCell ⟨q2, 1, none⟩ v2) p A n c s' := by
              unfold RdS at hS ⊢
              rw [heap_setCell_other _ _ _ _ (fun e => hq2p e.symm), heap_setCell_other _ _ _ _ (fun e => hq2p e.symm)]; exact hS
            have hr4 : RX p W ((wr.setCell ⟨q2, 0, none⟩ v).setCell ⟨q2, 1, none⟩ v2) := ((hG.toRX x1 (by omega) (by omega)).set 0 _ (.inl (by omega))).set 1 _ (.inl (by omega))
            have hq4 : ((wr.setCell ⟨q2, 0, none⟩ v).setCell ⟨q2, 1, none⟩ v2).heap[q2]? = some (.cells #[v, v2] 25 (0, 0)) := heap_setCell_same _ _ 1 _ _ _ (heap_setCell_same _ _ 0 _ _ _ hq2w)
            obtain ⟨z0, z1, _, _⟩ := blk2 hq4
            obtain ⟨y0, y1, f0, f1⟩ := blk2 hq2w
            subst hvr
            subst hvd
            replace hr1 := Lib.hid hr1
            replace hr2 := Lib.hid hr2
            replace hr3 := Lib.hid hr3
            replace hr4 := Lib.hid hr4
            have hr5 := Lib.hid (hf.out.mono (show q2 ≤ B by omega))
            have hr6 := Lib.hid (hf2.out.mono (show q2 ≤ B by omega))
            clear ho ho2 hS hG hq hq4 hq2w hrel hdis hE
            have hg0 : k = 0 → decide ((0 : Int) < (k : Int)) = false := fun h => by subst h; rfl
            have hg1 : 0 < k → decide ((0 : Int) < (k : Int)) = true := fun h => by rw [decide_eq_true_eq]; omega
            rcases hgo' with h0 | ⟨h0, hbad⟩
            · subst h0
              go_wp2
              exact bodyPost_ret (v := .agg #[_, _]) (by simp [results, Tryd.results27, go_sem, z0, z1]) rfl ⟨_, _, rfl, hr1.out, hr2.out, hr5.out, hr6.out, hr3.out, hr4.out⟩
            · have hg := hg1 h0
              rw [hbad] at d2
              go_wp2
              exact bodyPost_ret (v := .agg #[_, _]) (by simp [results, Tryd.results27, go_sem, z0, z1]) rfl ⟨_, _, rfl, hr1.out, hr2.out, hr5.out, hr6.out, hr3.out, hr4.out⟩
      · have hg := hg1 h0
        rw [hbad] at d2
        go_wp2_with fail
        refine hc2.out.mono ?_
        rintro e w3 ⟨rfl, s3, g3⟩
        have hq3' := g3.blk hq hq3p
        have hG3 := hG.rx g3
        have hpB : p < B := by omega
        have hq3B : q3 < B := by omega
        have hq2B : q2 < B := by omega
        have ho3 := ho.out.kept g3 (hf.out.ne hpB)
        clear hc2 ho
        go_wp2
        go_loopw [5] (Loop2 w0 w1 B p q3 A n c l D v o) (fun v _ => (intOf v).toNat)
        case atStart => exact ⟨ab, sb, [], .slice none 0 0, rfl, hnb.2, s3, hq3', Lib.hid (OwnS.nil _ _), Lib.hid (far.nil _), Lib.hid ho3, (by cases h : v.ownBlock with
            | none => exact .inl rfl
            | some g => exact .inr (fun e => by cases e)), hG3, hnb.1, fun _ => by simp, by simp, hD'⟩
        case round =>
          clear s3 g3 hq3' hG3 hD' ho3 hS hq hE e0 e1 d2 hat' hlen2 hG
          obtain ⟨k, s', o2, v2, rfl, hk, hS, hq, ho2, hf2, ho, hdis, hG, hat', hlen, hlen2, hrel⟩ := hrel
          have hE : Ext w0 wr := hend.out _ hG
          obtain ⟨e0, e1, _, _⟩ := blk2 hq
          obtain ⟨_, _, d2, _, _⟩ := hS.cells
          by_cases hgo : 0 < k ∧ s'.2 = false
          · obtain ⟨hk0, hs2⟩ := hgo
            obtain ⟨at', b⟩ := s'
            simp only at hs2 d2 hat' hlen
            subst hs2
            obtain ⟨k, rfl⟩ : ∃ j, k = j + 1 := ⟨k - 1, by omega⟩
            have hg1 : decide ((0 : Int) < ((k + 1 : Nat) : Int)) = true := by rw [decide_eq_true_eq]; omega
            have hg2 : decide ((0 : Int) < (k : Int) + 1) = true := by rw [decide_eq_true_eq]; omega
            have hrun := Lib.hid (fun (W' : World) (hX : Ext w0 W') (hS' : RdS W' p A n c (at', false)) => hspanc.out W' (at', false) hX hS' hat')
            have hrl := span_len (l := l) (s := (at', false)) (by rw [hl]; exact hat')
            have hon : (spanS l (at', false)).2.2 = false → at' + 3 ≤ (spanS l (at', false)).2.1 := fun h => span_on (by rw [hl]; exact hat') h
            have hst : (spansS l (k + 1) (at', false)) = ((spanS l (at', false)).1 :: (spansS l k (spanS l (at', false)).2).1, (spansS l k (spanS l (at', false)).2).2) := by rw [spansS, if_neg (by simp)]
            have hrel2 := Lib.hid (show (o2 ++ [(spanS l (at', false)).1] ++ (spansS l k (spanS l (at', false)).2).1, (spansS l k (spanS l (at', false)).2).2) = D by rw [← hrel.out, hst]; simp)
            have hol := hlen rfl
            clear hst hrel hlen
            rw [hl] at hrl
            generalize spanS l (at', false) = x at *
            obtain ⟨r, sx⟩ := x
            simp only at hrun hrl hon hrel2
            have hX : Ext w0 wr := hE
            have hcell : wr.cell? ⟨q3, 1, none⟩ = some v2 := e1
            have hpw : p < wr.heap.size := hS.lt
            have hq3w : q3 < wr.heap.size := (Array.getElem?_eq_some_iff.1 hq).1
            have hv := v2
            go_wp2_with fail
            refine wp_soft_frameP (RX p) 3 (fun W => RdS W p A n c (at', false)) (fun W => RdS W p A n c sx) 5 (bsnTab p q3 v2 r) (by kernel_rfl) (by kernel_rfl) (fun _ _ _ => RX.trans) (fun _ _ => RX.ext) (fun _ _ h hh => hh.ext h) (fun _ _ h hh => hh.ext h) (by omega) hS rfl (by show List.Nodup [39, 40, 41, 42, 43]; decide) (by show ∀ d ∈ [39, 40, 41, 42, 43], d < 47; decide) (bsnTab_mono p q3 v2 r) ?_ ⟨?_, ?_, ?_, ?_, ?_, trivial⟩
            · intro W' vs hT' hRx hPost
              match vs, hT' with
              | [v0, v1, v2', v3, v4], ⟨e0, e1, e2, e3, e4, _⟩ =>
                simp only [bsnTab, List.map_cons, List.map_nil, List.zip_cons_cons, List.zip_nil_left, putAll, List.setIfInBounds_toArray, List.set_cons_zero, List.set_cons_succ, List.drop_succ_cons, List.drop_zero]
                simp only at e0 e1 e2 e3 e4
                obtain ⟨qb, e4, hqb, hbox⟩ := e4
                rw [e0, e1, e2, e3, e4]
                clear e0 e1 e2 e3 e4 v0 v1 v2' v3 v4 hT' hcell
                have hE' : Ext w0 W' := RX.down hX hp hRx
                have hqW := hRx.blk hq hq3p
                have hlt' := Nat.lt_of_lt_of_le hq3w hRx.size
                have hpt' := Nat.lt_of_lt_of_le hpw hRx.size
                have hoW := ho.out.kept hRx (hf.out.ne hpB)
                have hoWlt := OwnR.lt hoW
                refine wpList_append_S2 (w0 := w0) rfl (.tmp 40) (.tmp 43) rfl v2 o2 rfl (ho2.out.kept hRx (hf2.out.ne hpB)) hE' _ 1 1 [r] rfl rfl hbox.row (by simp only [List.length_cons, List.length_nil]; omega) ?_
                intro v5 w5 o5 x5 g5 b5
                obtain ⟨A5, c5, hv5⟩ := OwnS.form o5
                rw [show (o2 ++ [r]).length = o2.length + 1 by simp] at hv5
                subst hv5
                have hneq : ∀ j, j < B → some j ≠ v2.ownBlock := fun j hj e => by have := hf2.out j e.symm; omega
                have hq5 : w5.heap[q3]? = some (.cells #[v, v2] 25 (0, 0)) := by rw [g5.block q3 hlt' (hneq q3 hq3B)]; exact hqW
                have hp5 : RdS w5 p A n c sx := by unfold RdS at hPost ⊢; rw [g5.block p hpt' (hneq p hpB)]; exact hPost
                have hr5 := hoW.kept g5 hdis
                obtain ⟨c0, c1, f0, f1⟩ := blk2 hq5
                have hf5 := far.on hf2.out b5 (by have := hG.size; have := hRx.size; omega)
                have hdis5 : v.ownBlock = none ∨ v.ownBlock ≠ (Value.slice A5 (o2.length + 1) c5).ownBlock := by
                  rcases hdis with h | h
                  · exact .inl h
                  · rcases b5 with b5 | b5
                    · exact .inr (by rw [b5]; exact h)
                    · rw [b5]
                      rcases hob : v.ownBlock with _ | g
                      · exact .inl rfl
                      · refine .inr fun he => ?_
                        injection he with he
                        have := (hoWlt g hob).2
                        omega
                have hst5 : RX q3 w5 (w5.setCell ⟨q3, 1, none⟩ (.slice A5 (o2.length + 1) c5)) := RX.set (RX.refl q3 w5) 1 _ (.inr rfl)
                have hsub : IntKind.u32.wrap (((k + 1 : Nat) : Int) - 1) = (k : Int) := by rw [show (((k + 1 : Nat) : Int) - 1) = (k : Int) by omega]; exact IntWalk.u32_in _ (by omega)
                have hsub2 : IntKind.u32.wrap ((k : Int) + 1 - 1) = (k : Int) := by rw [show ((k : Int) + 1 - 1) = (k : Int) by omega]; exact IntWalk.u32_in _ (by omega)
                have hrel5 : Loop2 w0 w1 B p q3 A n c l D v o (Vu k) (w5.setCell ⟨q3, 1, none⟩ (.slice A5 (o2.length + 1) c5)) :=
                  ⟨k, sx, o2 ++ [r], _, rfl, by omega, by unfold RdS at hp5 ⊢; rw [heap_setCell_other _ _ _ _ (fun e => hq3p e.symm)]; exact hp5, heap_setCell_same _ _ 1 _ _ _ hq5, Lib.hid (o5.kept hst5 (hf5.ne hq3B)), Lib.hid hf5, Lib.hid (hr5.kept hst5 (hf.out.ne hq3B)), hdis5, ((hG.rx hRx).on g5 (fun j e => .inl (hf2.out j e))).set _, hrl,
                    fun h => by have := hon h; simp only [List.length_append, List.length_cons, List.length_nil]; omega, by simp only [List.length_append, List.length_cons, List.length_nil]; omega, hrel2⟩
                replace hrel5 := Lib.hid hrel5
                clear hp5 hst5 hq5 hqW ho2 hf2 hG hPost hS hq hbox hr5 hoW ho
                go_wp2
                go_roundw
                case rel => exact hrel5.out
                case measure => simp [intOf]
            · refine softP_val 39 _ (by kernel_rfl) rfl rfl ?_
              intro a W hx hout hdep
              have ev3 : a.tmps[3]?.getD undef = .pointer (some ⟨q3, 0, none⟩) := by rw [← Array.getD_eq_getD_getElem?]; exact hout 3 (by show 3 ∉ [39, 40, 41, 42, 43]; decide)
              refine ⟨rfl, .pointer (some ⟨q3, 1, none⟩), W, ?_, rfl, Ext.refl _⟩
              simp [ev3, execOp, go_sem]
            · refine softP_val 40 _ (by kernel_rfl) rfl rfl ?_
              intro a W hx hout hdep
              have ev39 : a.tmps[39]?.getD undef = .pointer (some ⟨q3, 1, none⟩) := by rw [← Array.getD_eq_getD_getElem?]; exact (hdep ⟨0, .data⟩ (by simp) rfl 39 _ rfl).1
              have q0 := RX.cell hx hcell hq3p
              refine ⟨rfl, v2, W, ?_, rfl, Ext.refl _⟩
              simp [ev39, q0, execOp, go_sem]
            · refine softP_val 41 _ (by kernel_rfl) rfl rfl ?_
              intro a W hx hout hdep
              have ev0 : a.tmps[0]?.getD undef = .pointer (some ⟨p, 0, none⟩) := by rw [← Array.getD_eq_getD_getElem?]; exact hout 0 (by show 0 ∉ [39, 40, 41, 42, 43]; decide)
              refine ⟨rfl, .pointer (some ⟨p, 0, none⟩), W, ?_, rfl, Ext.refl _⟩
              simp [ev0, execOp, go_sem]
            · refine softC_call 42 _ (by kernel_rfl) rfl rfl ?_
              intro a W hx hpre hout hdep
              have ev41 : a.tmps[41]?.getD undef = .pointer (some ⟨p, 0, none⟩) := by rw [← Array.getD_eq_getD_getElem?]; exact (hdep ⟨2, .data⟩ (by simp) rfl 41 _ rfl).1
              refine ⟨rfl, 40, #[.pointer (some ⟨p, 0, none⟩)], ?_, ?_⟩
              · simp [ev41, execOp, go_sem]
              · exact (hrun.out W (RX.down hX hp hx) hpre).mono (by rintro e W1 ⟨rfl, h1, h2⟩; exact ⟨_, rfl, rfl, h2, h1⟩)
            · refine softP_val 43 _ (by kernel_rfl) rfl rfl ?_
              intro a W hx hout hdep
              have ev42 : a.tmps[42]?.getD undef = spv r.1 r.2.1 r.2.2 := by rw [← Array.getD_eq_getD_getElem?]; exact (hdep ⟨3, .data⟩ (by simp) rfl 42 _ rfl).1
              have hlt : p < W.heap.size := Nat.lt_of_lt_of_le hpw hx.size
              refine ⟨rfl, .slice (some ⟨W.heap.size, 0, none⟩) 1 1, _, ?_, ⟨_, rfl, by omega, BoxS6.new W r⟩, (Ext.refl W).alloc _⟩
              simp [ev42, execOp, go_sem]
          · have hfin : (o2, s') = D := by
              rw [← hrel.out]
              rcases Nat.eq_zero_or_pos k with h | h
              · subst h; simp [spansS]
              · have : s'.2 = true := by cases hb' : s'.2 with
                  | true => rfl
                  | false => exact absurd ⟨h, hb'⟩ hgo
                rw [spans_badS k this]; simp
            have hgo' : k = 0 ∨ (0 < k ∧ s'.2 = true) := by
              rcases Nat.eq_zero_or_pos k with h | h
              · exact .inl h
              · refine .inr ⟨h, ?_⟩
                cases hb' : s'.2 with
                | true => rfl
                | false => exact absurd ⟨h, hb'⟩ hgo
            subst hfin
            obtain ⟨Ar, cr, hvr, _, _⟩ := OwnR.open ho.out
            obtain ⟨Ad, cd, hvd⟩ := OwnS.form ho2.out
            have hq2w : wr.heap[q2]? = some (.cells #[.slice none 0 0, .slice none 0 0] 25 (0, 0)) := by rw [hG.block q2 hq2B hq2p (by omega)]; exact hq2
            have hr1 : OwnR w0 ((wr.setCell ⟨q2, 0, none⟩ v).setCell ⟨q2, 1, none⟩ v2) v o := (ho.out.kept (RX.set (RX.refl q2 wr) 0 v (.inr rfl)) (hf.out.ne hq2B)).kept (RX.set (RX.refl q2 _) 1 v2 (.inr rfl)) (hf.out.ne hq2B)
            have hr2 : OwnS w0 ((wr.setCell ⟨q2, 0, none⟩ v).setCell ⟨q2, 1, none⟩ v2) v2 o2 := (ho2.out.kept (RX.set (RX.refl q2 wr) 0 v (.inr rfl)) (hf2.out.ne hq2B)).kept (RX.set (RX.refl q2 _) 1 v2 (.inr rfl)) (hf2.out.ne hq2B)
            have hr3 : RdS ((wr.setCell ⟨q2, 0, none⟩ v).setCell ⟨q2, 1, none⟩ v2) p A n c s' := by
              unfold RdS at hS ⊢
              rw [heap_setCell_other _ _ _ _ (fun e => hq2p e.symm), heap_setCell_other _ _ _ _ (fun e => hq2p e.symm)]; exact hS
            have hr4 : RX p W ((wr.setCell ⟨q2, 0, none⟩ v).setCell ⟨q2, 1, none⟩ v2) := ((hG.toRX x1 (by omega) (by omega)).set 0 _ (.inl (by omega))).set 1 _ (.inl (by omega))
            have hq4 : ((wr.setCell ⟨q2, 0, none⟩ v).setCell ⟨q2, 1, none⟩ v2).heap[q2]? = some (.cells #[v, v2] 25 (0, 0)) := heap_setCell_same _ _ 1 _ _ _ (heap_setCell_same _ _ 0 _ _ _ hq2w)
            obtain ⟨z0, z1, _, _⟩ := blk2 hq4
            obtain ⟨y0, y1, f0, f1⟩ := blk2 hq2w
            subst hvr
            subst hvd
            replace hr1 := Lib.hid hr1
            replace hr2 := Lib.hid hr2
            replace hr3 := Lib.hid hr3
            replace hr4 := Lib.hid hr4
            have hr5 := Lib.hid (hf.out.mono (show q2 ≤ B by omega))
            have hr6 := Lib.hid (hf2.out.mono (show q2 ≤ B by omega))
            clear ho ho2 hS hG hq hq4 hq2w hrel hdis hE
            have hg0 : k = 0 → decide ((0 : Int) < (k : Int)) = false := fun h => by subst h; rfl
            have hg1 : 0 < k → decide ((0 : Int) < (k : Int)) = true := fun h => by rw [decide_eq_true_eq]; omega
            rcases hgo' with h0 | ⟨h0, hbad⟩
            · subst h0
              go_wp2
              exact bodyPost_ret (v := .agg #[_, _]) (by simp [results, Tryd.results27, go_sem, z0, z1]) rfl ⟨_, _, rfl, hr1.out, hr2.out, hr5.out, hr6.out, hr3.out, hr4.out⟩
            · have hg := hg1 h0
              rw [hbad] at d2
              go_wp2
              exact bodyPost_ret (v := .agg #[_, _]) (by simp [results, Tryd.results27, go_sem, z0, z1]) rfl ⟨_, _, rfl, hr1.out, hr2.out, hr5.out, hr6.out, hr3.out, hr4.out⟩
end

end Go.Proofs.YthpminlfbjedpaaDoor

namespace Go.Proofs.YthpminlfbjedpaaDoor
open Go.ChangeShapes Go.WideShapes Go.ChangeAt Go.RowKit Go.Sort
set_option linter.unusedVariables false
attribute [local go_sem] World.cell?_alloc_some

/-- a row whose block is as it was -/
theorem OwnG.away {t : TypeId} {s : Nat} {w W W' : World} {v : Value} {n : Nat} {xs : List Value} (h : OwnG t s w W v n xs) (hk : ∀ g, v.ownBlock = some g → W'.heap[g]? = W.heap[g]?) : OwnG t s w W' v n xs := by
  unfold OwnG at h ⊢
  rcases h with ⟨h1, h2 | ⟨g, cap, cur, h2, h3, h4, h5⟩⟩
  · exact ⟨h1, .inl h2⟩
  · refine ⟨h1, .inr ⟨g, cap, cur, h2, h3, ?_, h5⟩⟩
    rw [hk g (by rw [h2]; rfl)]; exact h4
theorem OwnI.away {w W W' : World} {v : Value} {l : List It} (h : OwnI w W v l) (hk : ∀ g, v.ownBlock = some g → W'.heap[g]? = W.heap[g]?) : OwnI w W' v l := OwnG.away h hk
theorem Ext.iterAt {a w : World} (h : Ext a w) {k : Nat} (hk : a.heap.size ≤ k) (s : ByteArray) (pos : Nat) : Ext a (w.iterAt k s pos) := Lib.below_iterAt h hk s pos
theorem BoxI.iterAt {W : World} {g k : Nat} {x : It} (h : BoxI W g x) (hk : g ≠ k) (s : ByteArray) (pos : Nat) : BoxI (W.iterAt k s pos) g x := by
  unfold BoxI at h ⊢
  rw [Lib.iterAt_other W k g s pos hk]; exact h
theorem BoxI.frozen {W : World} {g : Nat} {x : It} (h : BoxI W g x) (j : Nat) : W.frozen? ⟨g, j, none⟩ = false := frozen_of_row W g j _ _ h
theorem BoxI.new (W : World) (x : It) : BoxI (W.alloc (.cells #[.int .u32 x.c, .int .u32 x.k, .int .u32 x.lc, .int .u32 x.lk, .int .u32 x.rc, .int .u32 x.rk, .int .i32 x.ch] 56)) W.heap.size x := heap_alloc_new W _

theorem items_step {l : List UInt8} {pos v n : Nat} {c k lc lk rc rk : Int} (hr : runesD (l.drop pos) = v :: runesD (l.drop (pos + n))) : itemsGo c k lc lk rc rk (runesD (l.drop pos)) = (⟨c, k, lc, lk, rc, rk, (v : Int)⟩ : It) :: itemsGo c (k + 1) c k rc rk (runesD (l.drop (pos + n))) := by
  rw [hr]; rfl

theorem ItS.new_at {w : World} {g : Nat} (x : It) (h : w.heap.size = g) : ItS (w.alloc (.cells #[.int .u32 x.c, .int .u32 x.k, .int .u32 x.lc, .int .u32 x.lk, .int .u32 x.rc, .int .u32 x.rk, .int .i32 x.ch] 56)) (some ⟨g, 0, none⟩) [x] := by
  subst h; exact ItS.new w x
theorem BoxI.set6 {W : World} {g : Nat} {c k lc lk rc rk ch : Int} (h : BoxI W g ⟨c, k, lc, lk, rc, rk, ch⟩) (u : Int) : BoxI (W.setCell ⟨g, 6, none⟩ (.int .i32 u)) g ⟨c, k, lc, lk, rc, rk, u⟩ := heap_setCell_same W g 6 _ _ _ h
theorem BoxI.set1 {W : World} {g : Nat} {c k lc lk rc rk ch : Int} (h : BoxI W g ⟨c, k, lc, lk, rc, rk, ch⟩) (u : Int) : BoxI (W.setCell ⟨g, 1, none⟩ (.int .u32 u)) g ⟨c, u, lc, lk, rc, rk, ch⟩ := heap_setCell_same W g 1 _ _ _ h
theorem BoxI.set2 {W : World} {g : Nat} {c k lc lk rc rk ch : Int} (h : BoxI W g ⟨c, k, lc, lk, rc, rk, ch⟩) (u : Int) : BoxI (W.setCell ⟨g, 2, none⟩ (.int .u32 u)) g ⟨c, k, u, lk, rc, rk, ch⟩ := heap_setCell_same W g 2 _ _ _ h
theorem BoxI.set3 {W : World} {g : Nat} {c k lc lk rc rk ch : Int} (h : BoxI W g ⟨c, k, lc, lk, rc, rk, ch⟩) (u : Int) : BoxI (W.setCell ⟨g, 3, none⟩ (.int .u32 u)) g ⟨c, k, lc, u, rc, rk, ch⟩ := heap_setCell_same W g 3 _ _ _ h

/-- what the loop of addItems keeps -/
def AddKeep (w0 : World) (q it : Nat) (s : ByteArray) (c rc rk : Int) (L : List It) (v : Value) (W : World) : Prop :=
  ∃ (pos : Nat) (o : List It) (k lc lk ch : Int), pos ≤ s.size ∧ Hid (OwnI w0 W v o) ∧ Hid (BoxI W q ⟨c, k, lc, lk, rc, rk, ch⟩) ∧ Hid (W.heap[it]? = some (.stringIter s pos)) ∧ Ext w0 W ∧
    Hid (o ++ itemsGo c k lc lk rc rk (runesD (s.data.toList.drop pos)) = L) ∧ 0 ≤ k ∧ Hid (k + (runesD (s.data.toList.drop pos)).length ≤ 4294967295) ∧ Hid (∀ g, v.ownBlock = some g → g ≠ q ∧ g ≠ it)

def mayAll (l : List Rn) : Prop := ∀ r ∈ l, mayN r = true ∧ wfR r
theorem items_take {l : List Rn} {k : Nat} {r : Rn} (h : l[k]? = some r) : itemsOf (l.take (k + 1)) = itemsOf (l.take k) ++ itemsR r := by
  rw [List.take_add_one, h, items_append]
  simp [itemsOf]
theorem items_pre {l : List Rn} (k : Nat) : (itemsOf (l.take k)).length ≤ (itemsOf l).length := by
  have h : itemsOf l = itemsOf (l.take k) ++ itemsOf (l.drop k) := by rw [← items_append, List.take_append_drop]
  rw [h, List.length_append]; omega
theorem may_runs {r : Rn} (h : mayN r = true) : r.k + (runesD r.t).length ≤ 4294967295 ∧ r.c ≠ 0 ∧ Lib.validD r.t = true ∧ 0 < (runesD r.t).length := by
  unfold mayN at h
  rw [decide_eq_true_eq] at h
  exact ⟨by omega, h.2.2.1, h.1, h.2.1⟩

end Go.Proofs.YthpminlfbjedpaaDoor

namespace Go.Proofs.YthpminlfbjedpaaDoor
open Go.ChangeShapes Go.WideShapes Go.ChangeAt Go.RowKit Go.Sort
set_option linter.unusedVariables false
attribute [local go_sem] World.cell?_alloc_some

theorem may_false {r : Rn} (h : Lib.validD r.t = false ∨ (runesD r.t).length = 0 ∨ r.c = 0 ∨ 4294967294 < r.k + (runesD r.t).length - 1) : mayN r = false := by
  unfold mayN
  rw [decide_eq_false_iff_not]
  rintro ⟨h1, h2, h3, h4⟩
  rcases h with h | h | h | h
  · rw [h1] at h; cases h
  · omega
  · exact h3 h
  · omega
theorem may_true {r : Rn} (h1 : Lib.validD r.t = true) (h2 : 0 < (runesD r.t).length) (h3 : r.c ≠ 0) (h4 : r.k + (runesD r.t).length - 1 ≤ 4294967294) : mayN r = true := by
  unfold mayN
  rw [decide_eq_true_eq]
  exact ⟨h1, h2, h3, h4⟩

set_option maxRecDepth 100000 in
set_option maxHeartbeats 2000000 in
theorem mayRef_any (r : Rn) (w : World) (hk0 : 0 ≤ r.k) (hk1 : r.k ≤ 4294967295) (ht : r.t.length ≤ 200000) :
    Calls Tryd.prog 16 #[rnv r] w fun e w' => e = .returned (.bool (mayN r)) ∧ Ext w w' := by
  have hl := runesD_len r.t
  have hcall := Lib.hid (fun W => chars_any ⟨r.t.toArray⟩ (by show r.t.toArray.size ≤ _; simp; omega) W)
  go_enter Tryd.func16, Tryd.ntmps16
  go_wp2_with fail
  refine (hcall.out _).mono ?_
  rintro e w1 ⟨hret, x1⟩
  have hret : (Lib.validD r.t = false ∧ e = .returned (.tuple #[.slice none 0 0, .bool false]) ∨ Lib.validD r.t = true ∧ ∃ v, e = .returned (.tuple #[v, .bool true]) ∧ OwnU _ w1 v (runesD r.t)) := hret
  rcases hret with ⟨hv, rfl⟩ | ⟨hv, v, rfl, hu⟩
  · have hm := Lib.hid (may_false (r := r) (.inl hv))
    go_wp2
    go_ret
    exact ⟨ret_bool (a := false) hm.out.symm, ((Ext.refl _).alloc _).trans x1⟩
  · obtain ⟨A, c, rfl, hc⟩ := OwnG.form hu
    have a0 := x1.keep (p := ⟨w.heap.size, 0, none⟩) (v := Vu r.c) (by simp [go_sem])
    have a1 := x1.keep (p := ⟨w.heap.size, 1, none⟩) (v := Vu r.k) (by simp [go_sem])
    replace x1 := ((Ext.refl w).alloc _).trans x1
    clear hu
    generalize w.heap.size = pa at *
    by_cases h1 : (runesD r.t).length = 0
    · have hm := Lib.hid (may_false (r := r) (.inr (.inl h1)))
      rw [h1]
      clear h1 hl hv
      go_wp2
      go_ret
      exact ⟨ret_bool (a := false) hm.out.symm, x1⟩
    · have g1 : (0 : Int) < ((runesD r.t).length : Int) := by omega
      by_cases h2 : r.c = 0
      · have hm := Lib.hid (may_false (r := r) (.inr (.inr (.inl h2))))
        rw [h2] at a0
        clear hv h1
        go_wp2
        go_ret
        exact ⟨ret_bool (a := false) hm.out.symm, x1⟩
      · have g2 : (r.c != 0) = true := by simpa using h2
        by_cases h3 : r.k + (runesD r.t).length - 1 ≤ 4294967294
        · have hm := Lib.hid (may_true hv (by omega) h2 h3)
          clear hv h1 h2
          go_wp2
          go_ret
          exact ⟨ret_bool (by first | (rw [hm.out]; done) | (rw [hm.out]; exact decide_eq_true h3)), x1⟩
        · have hm := Lib.hid (may_false (r := r) (.inr (.inr (.inr (by omega)))))
          clear hv h1 h2
          go_wp2
          go_ret
          exact ⟨ret_bool (by rw [hm.out]; exact decide_eq_false (by omega)), x1⟩

end Go.Proofs.YthpminlfbjedpaaDoor
