/-
  Batches as bytes, in plain lists: no memory; no claim stands here.
-/
import Derived.Test.YthpminlfbjedpaaDoorWMath
import Derived.Test.YthpminlfbjedpaaDoorNBack
namespace Go.Proofs.YthpminlfbjedpaaDoor
open Go.Lib
set_option linter.unusedVariables false

abbrev Sp := Int × Int × Int
def wfSp (s : Sp) : Prop := 0 ≤ s.1 ∧ s.1 ≤ 4294967295 ∧ 0 ≤ s.2.1 ∧ s.2.1 ≤ 4294967295 ∧ 0 ≤ s.2.2 ∧ s.2.2 ≤ 4294967295
/-- numbers' bytes, one behind the other -/
def numsB (vs : List Nat) : List UInt8 := vs.flatMap numB
def runN (r : Rn) : List Nat := [r.c.toNat, r.k.toNat, r.lc.toNat, r.lk.toNat, r.rc.toNat, r.rk.toNat]
def runB (r : Rn) : List UInt8 := numsB (runN r) ++ putT r.t
def spanN (s : Sp) : List Nat := [s.1.toNat, s.2.1.toNat, s.2.2.toNat]
def spanB (s : Sp) : List UInt8 := numsB (spanN s)
/-- a batch's bytes -/
def batB (rs : List Rn) (ds : List Sp) : List UInt8 := numB rs.length ++ rs.flatMap runB ++ numB ds.length ++ ds.flatMap spanB

/-- so many numbers from a place on, and where they end -/
def numsAt (l : List UInt8) : Nat → Nat → Option (List Nat × Nat)
  | 0, p => some ([], p)
  | n + 1, p => match getB l p with
    | none => none
    | some (v, k) => match numsAt l n (p + k) with
      | none => none
      | some (vs, q) => some (v :: vs, q)
def runOf (vs : List Nat) (t : List UInt8) : Rn := ⟨vs.getD 0 0, vs.getD 1 0, vs.getD 2 0, vs.getD 3 0, vs.getD 4 0, vs.getD 5 0, t⟩
def spanOf (vs : List Nat) : Sp := (vs.getD 0 0, vs.getD 1 0, vs.getD 2 0)
def runAt (l : List UInt8) (p : Nat) : Option (Rn × Nat) := match numsAt l 6 p with
  | none => none
  | some (vs, q) => match getT l q with
    | none => none
    | some (t, k) => some (runOf vs t, q + k)
def runsAt (l : List UInt8) : Nat → Nat → Option (List Rn × Nat)
  | 0, p => some ([], p)
  | n + 1, p => match runAt l p with
    | none => none
    | some (r, q) => match runsAt l n q with
      | none => none
      | some (rs, e) => some (r :: rs, e)
def spansAt (l : List UInt8) : Nat → Nat → Option (List Sp × Nat)
  | 0, p => some ([], p)
  | n + 1, p => match numsAt l 3 p with
    | none => none
    | some (vs, q) => match spansAt l n q with
      | none => none
      | some (ds, e) => some (spanOf vs :: ds, e)
/-- the runs and spans whose bytes stand at the front, and where they end -/
def parse (l : List UInt8) : Option (List Rn × List Sp × Nat) := match getB l 0 with
  | none => none
  | some (m, p) => match runsAt l m p with
    | none => none
    | some (rs, q) => match getB l q with
      | none => none
      | some (m', k) => match spansAt l m' (q + k) with
        | none => none
        | some (ds, e) => some (rs, ds, e)

theorem numsB_cons (v : Nat) (vs : List Nat) : numsB (v :: vs) = numB v ++ numsB vs := by simp [numsB]
theorem numsB_nil : numsB [] = [] := rfl
theorem numsAt_put : ∀ (vs : List Nat) (a b : List UInt8), (∀ v ∈ vs, v < 4294967296) → numsAt (a ++ numsB vs ++ b) vs.length a.length = some (vs, a.length + (numsB vs).length)
  | [], a, b, _ => rfl
  | v :: vs, a, b, h => by
    have h1 := getB_put a (numsB vs ++ b) (h v (List.mem_cons_self ..))
    have h2 := numsAt_put vs (a ++ numB v) b fun x hx => h x (List.mem_cons_of_mem _ hx)
    have e : a ++ numsB (v :: vs) ++ b = a ++ numB v ++ (numsB vs ++ b) := by rw [numsB_cons]; simp
    have e2 : a ++ numB v ++ (numsB vs ++ b) = a ++ numB v ++ numsB vs ++ b := by simp
    rw [e, List.length_cons, numsAt, h1]
    simp only
    rw [e2, show a.length + (numB v).length = (a ++ numB v).length by simp, h2]
    simp only [numsB_cons, List.length_append]
    rw [Nat.add_assoc]
theorem take_step {l : List UInt8} {p n : Nat} {x : List UInt8} (hx : x = (l.drop p).take n) : l.take (p + n) = l.take p ++ x := by rw [hx, List.take_add]
theorem numsAt_back : ∀ {n : Nat} {l : List UInt8} {p q : Nat} {vs : List Nat}, p ≤ l.length → numsAt l n p = some (vs, q) → q ≤ l.length ∧ l.take q = l.take p ++ numsB vs ∧ vs.length = n ∧ (∀ v ∈ vs, v < 4294967296) ∧ p + n ≤ q
  | 0, l, p, q, vs, hp, h => by
    simp only [numsAt, Option.some.injEq, Prod.mk.injEq] at h
    obtain ⟨rfl, rfl⟩ := h
    exact ⟨hp, by simp [numsB], rfl, by simp, by omega⟩
  | n + 1, l, p, q, vs, hp, h => by
    rw [numsAt] at h
    cases h1 : getB l p with
    | none => rw [h1] at h; cases h
    | some vk =>
      obtain ⟨v, k⟩ := vk
      rw [h1] at h
      simp only at h
      obtain ⟨b1, b2, b3, _, b5⟩ := getB_back h1
      cases h2 : numsAt l n (p + k) with
      | none => rw [h2] at h; cases h
      | some wq =>
        obtain ⟨ws, q'⟩ := wq
        rw [h2] at h
        simp only [Option.some.injEq, Prod.mk.injEq] at h
        obtain ⟨rfl, rfl⟩ := h
        obtain ⟨c1, c2, c3, c4, c5⟩ := numsAt_back b2 h2
        refine ⟨c1, ?_, by simp [c3], ?_, by omega⟩
        · rw [c2, take_step b1, numsB_cons, List.append_assoc]
        · intro x hx
          rcases List.mem_cons.1 hx with rfl | hx
          · exact b5
          · exact c4 x hx
theorem getT_back' {l : List UInt8} {p : Nat} {s : List UInt8} {n : Nat} (hp : p ≤ l.length) (h : getT l p = some (s, n)) : p + n ≤ l.length ∧ l.take (p + n) = l.take p ++ putT s ∧ validD s = true ∧ s.length < 4294967296 ∧ 0 < n := by
  unfold getT at h
  cases h1 : getB l p with
  | none => rw [h1] at h; cases h
  | some zk =>
    obtain ⟨z, k⟩ := zk
    rw [h1] at h
    simp only [Int.toNat_natCast] at h
    obtain ⟨b1, b2, b3, _, b5⟩ := getB_back h1
    split at h
    · cases h
    · rename_i hz
      split at h
      · rename_i hv
        simp only [Option.some.injEq, Prod.mk.injEq] at h
        obtain ⟨rfl, rfl⟩ := h
        rw [List.length_drop] at hz
        have hl : ((l.drop (p + k)).take z).length = z := by rw [List.length_take, List.length_drop]; omega
        refine ⟨by omega, ?_, hv, by rw [hl]; exact b5, by omega⟩
        rw [← Nat.add_assoc, take_step rfl, take_step b1, putT, hl, List.append_assoc]
      · cases h

theorem runN_len (r : Rn) : (runN r).length = 6 := rfl
theorem spanN_len (s : Sp) : (spanN s).length = 3 := rfl
theorem runN_lt {r : Rn} (h : wfR r) : ∀ v ∈ runN r, v < 4294967296 := by
  unfold wfR at h
  intro v hv
  simp only [runN, List.mem_cons, List.not_mem_nil, or_false] at hv
  omega
theorem spanN_lt {s : Sp} (h : wfSp s) : ∀ v ∈ spanN s, v < 4294967296 := by
  unfold wfSp at h
  intro v hv
  simp only [spanN, List.mem_cons, List.not_mem_nil, or_false] at hv
  omega
theorem runOf_N {r : Rn} (h : wfR r) : runOf (runN r) r.t = r := by
  unfold wfR at h
  obtain ⟨c, k, lc, lk, rc, rk, t⟩ := r
  simp only at h
  simp only [runOf, runN, List.getD_cons_zero, List.getD_cons_succ, Rn.mk.injEq, and_true]
  omega
theorem spanOf_N {s : Sp} (h : wfSp s) : spanOf (spanN s) = s := by
  unfold wfSp at h
  obtain ⟨x, y, z⟩ := s
  simp only at h
  simp only [spanOf, spanN, List.getD_cons_zero, List.getD_cons_succ, Prod.mk.injEq]
  omega
/-- a run that can be put -/
def putR (r : Rn) : Prop := wfR r ∧ validD r.t = true ∧ r.t.length < 4294967296
theorem runAt_put {r : Rn} (h : putR r) (a b : List UInt8) : runAt (a ++ runB r ++ b) a.length = some (r, a.length + (runB r).length) := by
  have h1 := numsAt_put (runN r) a (putT r.t ++ b) (runN_lt h.1)
  have e : a ++ runB r ++ b = a ++ numsB (runN r) ++ (putT r.t ++ b) := by rw [runB]; simp
  have e2 : a ++ numsB (runN r) ++ (putT r.t ++ b) = (a ++ numsB (runN r)) ++ putT r.t ++ b := by simp
  have h2 := getT_put (a ++ numsB (runN r)) b h.2.2 h.2.1
  rw [runN_len] at h1
  unfold runAt
  rw [e, h1]
  simp only
  rw [e2, show a.length + (numsB (runN r)).length = (a ++ numsB (runN r)).length by simp, h2]
  simp only [runOf_N h.1, runB, List.length_append]
  rw [Nat.add_assoc]
theorem list6N {l : List Nat} (h : l.length = 6) : ∃ a b c d e f, l = [a, b, c, d, e, f] := by
  match l, h with
  | [a, b, c, d, e, f], _ => exact ⟨a, b, c, d, e, f, rfl⟩
theorem list3N {l : List Nat} (h : l.length = 3) : ∃ a b c, l = [a, b, c] := by
  match l, h with
  | [a, b, c], _ => exact ⟨a, b, c, rfl⟩
theorem runAt_back {l : List UInt8} {p q : Nat} {r : Rn} (hp : p ≤ l.length) (h : runAt l p = some (r, q)) : q ≤ l.length ∧ l.take q = l.take p ++ runB r ∧ putR r ∧ p + 7 ≤ q := by
  unfold runAt at h
  cases h1 : numsAt l 6 p with
  | none => rw [h1] at h; cases h
  | some vq =>
    obtain ⟨vs, q1⟩ := vq
    rw [h1] at h
    simp only at h
    obtain ⟨b1, b2, b3, b4, b5⟩ := numsAt_back hp h1
    cases h2 : getT l q1 with
    | none => rw [h2] at h; cases h
    | some tk =>
      obtain ⟨t, k⟩ := tk
      rw [h2] at h
      simp only [Option.some.injEq, Prod.mk.injEq] at h
      obtain ⟨rfl, rfl⟩ := h
      obtain ⟨c1, c2, c3, c4, c5⟩ := getT_back' b1 h2
      obtain ⟨x0, x1, x2, x3, x4, x5, rfl⟩ := list6N b3
      simp only [List.mem_cons, List.not_mem_nil, or_false, forall_eq_or_imp, forall_eq] at b4
      refine ⟨c1, ?_, ⟨?_, c3, c4⟩, by omega⟩
      · rw [c2, b2, runB, List.append_assoc]
        simp only [runOf, runN, List.getD_cons_zero, List.getD_cons_succ, Int.toNat_natCast]
      · unfold wfR runOf
        simp only [List.getD_cons_zero, List.getD_cons_succ]
        omega
theorem runsAt_put : ∀ (rs : List Rn) (a b : List UInt8), (∀ r ∈ rs, putR r) → runsAt (a ++ rs.flatMap runB ++ b) rs.length a.length = some (rs, a.length + (rs.flatMap runB).length)
  | [], a, b, _ => rfl
  | r :: rs, a, b, h => by
    have h1 := runAt_put (h r (List.mem_cons_self ..)) a (rs.flatMap runB ++ b)
    have h2 := runsAt_put rs (a ++ runB r) b fun x hx => h x (List.mem_cons_of_mem _ hx)
    have e : a ++ (r :: rs).flatMap runB ++ b = a ++ runB r ++ (rs.flatMap runB ++ b) := by simp
    have e2 : a ++ runB r ++ (rs.flatMap runB ++ b) = a ++ runB r ++ rs.flatMap runB ++ b := by simp
    rw [e, List.length_cons, runsAt, h1]
    simp only
    rw [e2, show a.length + (runB r).length = (a ++ runB r).length by simp, h2]
    simp only [List.flatMap_cons, List.length_append]
    rw [Nat.add_assoc]
theorem runsAt_back : ∀ {n : Nat} {l : List UInt8} {p q : Nat} {rs : List Rn}, p ≤ l.length → runsAt l n p = some (rs, q) → q ≤ l.length ∧ l.take q = l.take p ++ rs.flatMap runB ∧ rs.length = n ∧ (∀ r ∈ rs, putR r) ∧ p + 7 * n ≤ q
  | 0, l, p, q, rs, hp, h => by
    simp only [runsAt, Option.some.injEq, Prod.mk.injEq] at h
    obtain ⟨rfl, rfl⟩ := h
    exact ⟨hp, by simp, rfl, by simp, by omega⟩
  | n + 1, l, p, q, rs, hp, h => by
    rw [runsAt] at h
    cases h1 : runAt l p with
    | none => rw [h1] at h; cases h
    | some rk =>
      obtain ⟨r, k⟩ := rk
      rw [h1] at h
      simp only at h
      obtain ⟨b1, b2, b3, b4⟩ := runAt_back hp h1
      cases h2 : runsAt l n k with
      | none => rw [h2] at h; cases h
      | some wq =>
        obtain ⟨ws, q'⟩ := wq
        rw [h2] at h
        simp only [Option.some.injEq, Prod.mk.injEq] at h
        obtain ⟨rfl, rfl⟩ := h
        obtain ⟨c1, c2, c3, c4, c5⟩ := runsAt_back b1 h2
        refine ⟨c1, ?_, by simp [c3], ?_, by omega⟩
        · rw [c2, b2, List.flatMap_cons, List.append_assoc]
        · intro x hx
          rcases List.mem_cons.1 hx with rfl | hx
          · exact b3
          · exact c4 x hx
theorem spansAt_put : ∀ (ds : List Sp) (a b : List UInt8), (∀ s ∈ ds, wfSp s) → spansAt (a ++ ds.flatMap spanB ++ b) ds.length a.length = some (ds, a.length + (ds.flatMap spanB).length)
  | [], a, b, _ => rfl
  | s :: ds, a, b, h => by
    have h1 := numsAt_put (spanN s) a (ds.flatMap spanB ++ b) (spanN_lt (h s (List.mem_cons_self ..)))
    have h2 := spansAt_put ds (a ++ spanB s) b fun x hx => h x (List.mem_cons_of_mem _ hx)
    have e : a ++ (s :: ds).flatMap spanB ++ b = a ++ numsB (spanN s) ++ (ds.flatMap spanB ++ b) := by simp [spanB]
    have e2 : a ++ numsB (spanN s) ++ (ds.flatMap spanB ++ b) = a ++ spanB s ++ ds.flatMap spanB ++ b := by simp [spanB]
    rw [spanN_len] at h1
    rw [e, List.length_cons, spansAt, h1]
    simp only
    rw [e2, show a.length + (numsB (spanN s)).length = (a ++ spanB s).length by simp [spanB], h2]
    simp only [List.flatMap_cons, List.length_append, spanOf_N (h s (List.mem_cons_self ..))]
    rw [Nat.add_assoc]
theorem spansAt_back : ∀ {n : Nat} {l : List UInt8} {p q : Nat} {ds : List Sp}, p ≤ l.length → spansAt l n p = some (ds, q) → q ≤ l.length ∧ l.take q = l.take p ++ ds.flatMap spanB ∧ ds.length = n ∧ (∀ s ∈ ds, wfSp s) ∧ p + 3 * n ≤ q
  | 0, l, p, q, rs, hp, h => by
    simp only [spansAt, Option.some.injEq, Prod.mk.injEq] at h
    obtain ⟨rfl, rfl⟩ := h
    exact ⟨hp, by simp, rfl, by simp, by omega⟩
  | n + 1, l, p, q, rs, hp, h => by
    rw [spansAt] at h
    cases h1 : numsAt l 3 p with
    | none => rw [h1] at h; cases h
    | some rk =>
      obtain ⟨vs, k⟩ := rk
      rw [h1] at h
      simp only at h
      obtain ⟨b1, b2, b3, b4, b5⟩ := numsAt_back hp h1
      obtain ⟨x0, x1, x2, rfl⟩ := list3N b3
      simp only [List.mem_cons, List.not_mem_nil, or_false, forall_eq_or_imp, forall_eq] at b4
      cases h2 : spansAt l n k with
      | none => rw [h2] at h; cases h
      | some wq =>
        obtain ⟨ws, q'⟩ := wq
        rw [h2] at h
        simp only [Option.some.injEq, Prod.mk.injEq] at h
        obtain ⟨rfl, rfl⟩ := h
        obtain ⟨c1, c2, c3, c4, c5⟩ := spansAt_back b1 h2
        refine ⟨c1, ?_, by simp [c3], ?_, by omega⟩
        · rw [c2, b2, List.flatMap_cons, List.append_assoc]
          simp only [spanB, spanN, spanOf, List.getD_cons_zero, List.getD_cons_succ, Int.toNat_natCast]
        · intro x hx
          rcases List.mem_cons.1 hx with rfl | hx
          · unfold wfSp spanOf
            simp only [List.getD_cons_zero, List.getD_cons_succ]
            omega
          · exact c4 x hx

theorem parse_put {rs : List Rn} {ds : List Sp} (hr : ∀ r ∈ rs, putR r) (hd : ∀ s ∈ ds, wfSp s) (h1 : rs.length < 4294967296) (h2 : ds.length < 4294967296) (b : List UInt8) : parse (batB rs ds ++ b) = some (rs, ds, (batB rs ds).length) := by
  have e0 : batB rs ds ++ b = [] ++ numB rs.length ++ (rs.flatMap runB ++ (numB ds.length ++ (ds.flatMap spanB ++ b))) := by simp [batB]
  have g0 := getB_put [] (rs.flatMap runB ++ (numB ds.length ++ (ds.flatMap spanB ++ b))) h1
  have e1 : [] ++ numB rs.length ++ (rs.flatMap runB ++ (numB ds.length ++ (ds.flatMap spanB ++ b))) = numB rs.length ++ rs.flatMap runB ++ (numB ds.length ++ (ds.flatMap spanB ++ b)) := by simp
  have g1 := runsAt_put rs (numB rs.length) (numB ds.length ++ (ds.flatMap spanB ++ b)) hr
  have e2 : numB rs.length ++ rs.flatMap runB ++ (numB ds.length ++ (ds.flatMap spanB ++ b)) = (numB rs.length ++ rs.flatMap runB) ++ numB ds.length ++ (ds.flatMap spanB ++ b) := by simp
  have g2 := getB_put (numB rs.length ++ rs.flatMap runB) (ds.flatMap spanB ++ b) h2
  have e3 : (numB rs.length ++ rs.flatMap runB) ++ numB ds.length ++ (ds.flatMap spanB ++ b) = (numB rs.length ++ rs.flatMap runB ++ numB ds.length) ++ ds.flatMap spanB ++ b := by simp
  have g3 := spansAt_put ds (numB rs.length ++ rs.flatMap runB ++ numB ds.length) b hd
  unfold parse
  rw [List.length_nil] at g0
  rw [e0, show (0 : Int) = ((0 : Nat) : Int) from rfl, g0]
  simp only
  rw [e1, g1]
  simp only
  rw [e2, show (numB rs.length).length + (rs.flatMap runB).length = (numB rs.length ++ rs.flatMap runB).length by simp, g2]
  simp only
  rw [e3, show (numB rs.length ++ rs.flatMap runB).length + (numB ds.length).length = (numB rs.length ++ rs.flatMap runB ++ numB ds.length).length from (List.length_append ..).symm, g3]
  simp only [batB, List.length_append]
theorem parse_back {l : List UInt8} {rs : List Rn} {ds : List Sp} {e : Nat} (h : parse l = some (rs, ds, e)) : e ≤ l.length ∧ l.take e = batB rs ds ∧ (∀ r ∈ rs, putR r) ∧ (∀ s ∈ ds, wfSp s) ∧ 7 * rs.length + 3 * ds.length + 2 ≤ e := by
  unfold parse at h
  cases h0 : getB l 0 with
  | none => rw [h0] at h; cases h
  | some mp =>
    obtain ⟨m, p⟩ := mp
    rw [h0] at h
    simp only at h
    obtain ⟨a1, a2, a3, _, a5⟩ := getB_back (p := 0) h0
    rw [Nat.zero_add] at a2
    cases h1 : runsAt l m p with
    | none => rw [h1] at h; cases h
    | some rq =>
      obtain ⟨rs', q⟩ := rq
      rw [h1] at h
      simp only at h
      obtain ⟨b1, b2, b3, b4, b5⟩ := runsAt_back a2 h1
      cases h2 : getB l q with
      | none => rw [h2] at h; cases h
      | some mk =>
        obtain ⟨m', k⟩ := mk
        rw [h2] at h
        simp only at h
        obtain ⟨c1, c2, c3, _, c5⟩ := getB_back h2
        cases h3 : spansAt l m' (q + k) with
        | none => rw [h3] at h; cases h
        | some de =>
          obtain ⟨ds', e'⟩ := de
          rw [h3] at h
          simp only [Option.some.injEq, Prod.mk.injEq] at h
          obtain ⟨rfl, rfl, rfl⟩ := h
          obtain ⟨d1, d2, d3, d4, d5⟩ := spansAt_back c2 h3
          refine ⟨d1, ?_, b4, d4, by omega⟩
          have z0 := take_step (p := 0) a1
          rw [Nat.zero_add, List.take_zero, List.nil_append] at z0
          rw [d2, take_step c1, b2, z0, batB, b3, d3]
/-- the parse of what begins with a batch's bytes -/
theorem parse_more {l : List UInt8} {rs : List Rn} {ds : List Sp} {e : Nat} (h : parse l = some (rs, ds, e)) (hl : l.length ≤ 1000000) (b : List UInt8) : parse (l.take e ++ b) = some (rs, ds, e) := by
  obtain ⟨h1, h2, h3, h4, h5⟩ := parse_back h
  have h6 : (batB rs ds).length = e := by rw [← h2, List.length_take]; omega
  rw [h2, parse_put h3 h4 (by omega) (by omega), h6]

end Go.Proofs.YthpminlfbjedpaaDoor
