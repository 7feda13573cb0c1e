/-
  Which batches may be, in plain lists: no memory; no claim stands here.
-/
import Derived.Test.YthpminlfbjedpaaDoorBMath
import Derived.Test.YthpminlfbjedpaaDoorRMath
namespace Go.Proofs.YthpminlfbjedpaaDoor
open Go.Lib
set_option linter.unusedVariables false

def befX (x y : It) : Bool := decide (x.c < y.c ∨ x.c = y.c ∧ x.k < y.k)
/-- do items' Ids rise -/
def risB : List It → Bool
  | [] => true
  | x :: l => match l with
    | [] => true
    | y :: _ => befX x y && risB l
/-- the last clock of a run -/
def lastK (r : Rn) : Int := r.k + (runesD r.t).length - 1
def befR (r s : Rn) : Bool := decide (r.c < s.c ∨ r.c = s.c ∧ lastK r < s.k)
def onR (r s : Rn) : Bool := decide (r.c ≠ 0 ∧ lastK r + 1 ≤ 4294967294 ∧ s.c = r.c ∧ s.k = lastK r + 1 ∧ s.lc = r.c ∧ s.lk = lastK r ∧ s.rc = r.rc ∧ s.rk = r.rk)
/-- of each two that stand side by side -/
def sideB (p : Rn → Rn → Bool) : List Rn → Bool
  | [] => true
  | r :: l => match l with
    | [] => true
    | s :: _ => p r s && sideB p l
/-- a batch that may be, as the reference has it -/
def mayB (rs : List Rn) (ds : List Sp) : Bool := rs.all mayN && risB (itemsOf rs) && decide ((runsOf (itemsOf rs)).length = rs.length) && maySp zS ds

theorem go_cons (c k lc lk rc rk : Int) (v : Nat) (vs : List Nat) : itemsGo c k lc lk rc rk (v :: vs) = ⟨c, k, lc, lk, rc, rk, (v : Int)⟩ :: itemsGo c (k + 1) c k rc rk vs := rfl
theorem ris_two (x y : It) (l : List It) : risB (x :: y :: l) = (befX x y && risB (y :: l)) := rfl
theorem go_ris (c rc rk : Int) (y : It) (M : List It) : ∀ (vs : List Nat) (v : Nat) (k lc lk : Int), risB (itemsGo c k lc lk rc rk (v :: vs) ++ y :: M) = (decide (c < y.c ∨ c = y.c ∧ k + vs.length < y.k) && risB (y :: M))
  | [], v, k, lc, lk => by
    rw [go_cons]
    simp only [itemsGo, List.cons_append, List.nil_append, ris_two, befX, List.length_nil, Int.natCast_zero, Int.add_zero]
  | v' :: vs, v, k, lc, lk => by
    have ih := go_ris c rc rk y M vs v' (k + 1) c k
    rw [go_cons, List.cons_append]
    rw [go_cons, List.cons_append, ris_two]
    rw [go_cons, List.cons_append] at ih
    rw [ih, List.length_cons]
    have : befX ⟨c, k, lc, lk, rc, rk, (v : Int)⟩ ⟨c, k + 1, c, k, rc, rk, (v' : Int)⟩ = true := by unfold befX; simp; omega
    rw [this, Bool.true_and]
    congr 2
    rw [show k + 1 + (vs.length : Int) = k + ((vs.length + 1 : Nat) : Int) by omega]
theorem go_ris_end (c rc rk : Int) : ∀ (vs : List Nat) (v : Nat) (k lc lk : Int), risB (itemsGo c k lc lk rc rk (v :: vs)) = true
  | [], v, k, lc, lk => rfl
  | v' :: vs, v, k, lc, lk => by
    have ih := go_ris_end c rc rk vs v' (k + 1) c k
    rw [go_cons]
    rw [go_cons, ris_two]
    rw [go_cons] at ih
    rw [ih, Bool.and_true]
    unfold befX; simp; omega
theorem consR_len (b : Bool) (x : It) (rs : List Rn) (h : b = true → rs ≠ []) : (consR b x rs).length = rs.length + if b then 0 else 1 := by
  cases rs with
  | nil =>
    cases b with
    | true => exact absurd rfl (h rfl)
    | false => rfl
  | cons r rs =>
    rw [consR_cons]
    cases b <;> simp
theorem on_next (c k rc rk lc lk lc' lk' : Int) (a b : Int) (hc : c ≠ 0) (hk : k + 1 ≤ 4294967294) : onI ⟨c, k, lc, lk, rc, rk, a⟩ ⟨c, k + 1, c, k, rc, rk, b⟩ = true := by
  unfold onI
  rw [decide_eq_true_eq]
  exact ⟨hc, hk, rfl, rfl, rfl, rfl, rfl, rfl⟩
theorem nextOn_ne {x : It} {M : List It} (h : nextOn x M = true) : M ≠ [] := by rintro rfl; cases h
theorem go_runs (c rc rk : Int) (M : List It) (hc : c ≠ 0) : ∀ (vs : List Nat) (v : Nat) (k lc lk : Int), k + vs.length ≤ 4294967294 →
    ∃ z, z.c = c ∧ z.k = k + vs.length ∧ z.rc = rc ∧ z.rk = rk ∧ (runsOf (itemsGo c k lc lk rc rk (v :: vs) ++ M)).length = (runsOf M).length + if nextOn z M then 0 else 1
  | [], v, k, lc, lk, _ => by
    refine ⟨⟨c, k, lc, lk, rc, rk, (v : Int)⟩, rfl, by simp, rfl, rfl, ?_⟩
    rw [go_cons]
    simp only [itemsGo, List.cons_append, List.nil_append]
    rw [runs_cons, consR_len]
    intro h
    exact runs_ne (nextOn_ne h)
  | v' :: vs, v, k, lc, lk, hk => by
    rw [List.length_cons] at hk
    obtain ⟨z, z1, z2, z3, z4, z5⟩ := go_runs c rc rk M hc vs v' (k + 1) c k (by omega)
    refine ⟨z, z1, by rw [z2, List.length_cons]; omega, z3, z4, ?_⟩
    rw [go_cons, List.cons_append, runs_cons]
    have h1 : nextOn ⟨c, k, lc, lk, rc, rk, (v : Int)⟩ (itemsGo c (k + 1) c k rc rk (v' :: vs) ++ M) = true := by
      rw [go_cons, List.cons_append]
      exact on_next c k rc rk lc lk 0 0 _ _ hc (by omega)
    rw [consR_len _ _ _ (fun _ => runs_ne (nextOn_ne h1)), h1, z5]
    simp
/-- a run that may be, by its characters -/
theorem may_go {r : Rn} (h : mayN r = true) : ∃ v vs, runesD r.t = v :: vs ∧ r.c ≠ 0 ∧ r.k + vs.length ≤ 4294967294 ∧ lastK r = r.k + vs.length ∧ itemsR r = itemsGo r.c r.k r.lc r.lk r.rc r.rk (v :: vs) ∧ validD r.t = true := by
  unfold mayN at h
  rw [decide_eq_true_eq] at h
  obtain ⟨h1, h2, h3, h4⟩ := h
  cases hr : runesD r.t with
  | nil => rw [hr] at h2; simp at h2
  | cons v vs =>
    rw [hr, List.length_cons] at h4
    refine ⟨v, vs, rfl, h3, by omega, ?_, by rw [itemsR, hr], h1⟩
    unfold lastK
    rw [hr, List.length_cons]
    omega
theorem side_two (p : Rn → Rn → Bool) (r s : Rn) (l : List Rn) : sideB p (r :: s :: l) = (p r s && sideB p (s :: l)) := rfl
theorem items_head {s : Rn} (h : mayN s = true) (l : List Rn) : ∃ y M, itemsOf (s :: l) = y :: M ∧ y.c = s.c ∧ y.k = s.k ∧ y.lc = s.lc ∧ y.lk = s.lk ∧ y.rc = s.rc ∧ y.rk = s.rk := by
  obtain ⟨v, vs, _, _, _, _, e, _⟩ := may_go h
  exact ⟨_, _, by rw [items_cons, e, go_cons, List.cons_append], rfl, rfl, rfl, rfl, rfl, rfl⟩
theorem ris_side : ∀ (rs : List Rn), rs.all mayN = true → risB (itemsOf rs) = sideB befR rs
  | [], _ => rfl
  | [r], h => by
    obtain ⟨v, vs, _, _, _, _, e, _⟩ := may_go (r := r) (by simpa using h)
    rw [items_one, e, go_ris_end]; rfl
  | r :: s :: l, h => by
    rw [List.all_cons, Bool.and_eq_true] at h
    obtain ⟨v, vs, _, _, _, hl, e, _⟩ := may_go h.1
    have hs : mayN s = true := by have := h.2; rw [List.all_cons, Bool.and_eq_true] at this; exact this.1
    obtain ⟨y, M, hy, y1, y2, _⟩ := items_head hs l
    have ih := ris_side (s :: l) h.2
    rw [items_cons, side_two, ← ih, e, hy, go_ris, befR, hl, y1, y2]
theorem runs_side : ∀ (rs : List Rn), rs.all mayN = true → (runsOf (itemsOf rs)).length ≤ rs.length ∧ decide ((runsOf (itemsOf rs)).length = rs.length) = sideB (fun r s => !onR r s) rs
  | [], _ => ⟨by simp [itemsOf, runsOf], by simp [itemsOf, runsOf, sideB]⟩
  | [r], h => by
    obtain ⟨v, vs, _, hc, hk, _, e, _⟩ := may_go (r := r) (by simpa using h)
    obtain ⟨z, _, _, _, _, hz⟩ := go_runs r.c r.rc r.rk [] hc vs v r.k r.lc r.lk hk
    rw [List.append_nil] at hz
    rw [items_one, e, hz]
    exact ⟨by simp [runsOf, nextOn], by simp [runsOf, nextOn, sideB]⟩
  | r :: s :: l, h => by
    rw [List.all_cons, Bool.and_eq_true] at h
    obtain ⟨v, vs, _, hc, hk, hl, e, _⟩ := may_go h.1
    have hs : mayN s = true := by have := h.2; rw [List.all_cons, Bool.and_eq_true] at this; exact this.1
    obtain ⟨y, M, hy, y1, y2, y3, y4, y5, y6⟩ := items_head hs l
    obtain ⟨ih1, ih2⟩ := runs_side (s :: l) h.2
    obtain ⟨z, z1, z2, z3, z4, hz⟩ := go_runs r.c r.rc r.rk (itemsOf (s :: l)) hc vs v r.k r.lc r.lk hk
    have hon : nextOn z (itemsOf (s :: l)) = onR r s := by
      rw [hy]
      show onI z y = onR r s
      unfold onI onR
      rw [z1, z2, z3, z4, y1, y2, y3, y4, y5, y6, hl]
    rw [items_cons, e, hz, hon]
    rw [side_two, ← ih2]
    refine ⟨?_, ?_⟩
    · simp only [List.length_cons] at ih1 ⊢
      split <;> omega
    · cases onR r s with
      | true =>
        simp only [List.length_cons] at ih1 ⊢
        simp
        omega
      | false => simp
/-- a batch that may be, as the chapter has it -/
theorem mayB_side (rs : List Rn) (ds : List Sp) : mayB rs ds = (rs.all mayN && sideB befR rs && sideB (fun r s => !onR r s) rs && maySp zS ds) := by
  unfold mayB
  cases h : rs.all mayN with
  | false => rfl
  | true => rw [ris_side rs h, (runs_side rs h).2]

/-- the batch of bytes -/
def getBat (l : List UInt8) : Option (List Rn × List Sp) := if 20000 < l.length then none else match parse l with
  | none => none
  | some (rs, ds, e) => if e = l.length ∧ mayB rs ds = true then some (rs, ds) else none
theorem may_put {rs : List Rn} {ds : List Sp} (hw : ∀ r ∈ rs, wfR r ∧ r.t.length < 4294967296) (h : mayB rs ds = true) : ∀ r ∈ rs, putR r := by
  unfold mayB at h
  simp only [Bool.and_eq_true] at h
  intro r hr
  obtain ⟨_, _, _, _, _, _, _, hv⟩ := may_go (List.all_eq_true.1 h.1.1.1 r hr)
  exact ⟨(hw r hr).1, hv, (hw r hr).2⟩
theorem getBat_put {rs : List Rn} {ds : List Sp} (hw : ∀ r ∈ rs, wfR r ∧ r.t.length < 4294967296) (hd : ∀ s ∈ ds, wfSp s) (h1 : rs.length < 4294967296) (h2 : ds.length < 4294967296) (h : mayB rs ds = true) (hl : (batB rs ds).length ≤ 20000) :
    getBat (batB rs ds) = some (rs, ds) := by
  have := parse_put (may_put hw h) hd h1 h2 []
  rw [List.append_nil] at this
  unfold getBat
  rw [if_neg (by omega), this]
  simp only
  rw [if_pos ⟨trivial, h⟩]
theorem getBat_more {rs : List Rn} {ds : List Sp} (hw : ∀ r ∈ rs, wfR r ∧ r.t.length < 4294967296) (hd : ∀ s ∈ ds, wfSp s) (h1 : rs.length < 4294967296) (h2 : ds.length < 4294967296) (h : mayB rs ds = true) (b : List UInt8) (hb : 0 < b.length) :
    getBat (batB rs ds ++ b) = none := by
  have := parse_put (may_put hw h) hd h1 h2 b
  unfold getBat
  split
  · rfl
  · rw [this]
    simp only
    rw [if_neg]
    intro hh
    have := hh.1
    rw [List.length_append] at this
    omega
theorem getBat_cut {rs : List Rn} {ds : List Sp} (hw : ∀ r ∈ rs, wfR r ∧ r.t.length < 4294967296) (hd : ∀ s ∈ ds, wfSp s) (h1 : rs.length < 4294967296) (h2 : ds.length < 4294967296) (h : mayB rs ds = true) (k : Nat) (hk : k < (batB rs ds).length) (hl : (batB rs ds).length ≤ 20000) :
    getBat ((batB rs ds).take k) = none := by
  have hp := parse_put (may_put hw h) hd h1 h2 []
  rw [List.append_nil] at hp
  have hlk : ((batB rs ds).take k).length = k := by rw [List.length_take]; omega
  unfold getBat
  rw [hlk, if_neg (by omega)]
  cases hq : parse ((batB rs ds).take k) with
  | none => rfl
  | some x =>
    obtain ⟨rs', ds', e⟩ := x
    simp only
    rw [if_neg]
    rintro ⟨he, _⟩
    subst he
    have hm := parse_more hq (by rw [hlk]; omega) ((batB rs ds).drop e)
    rw [List.take_take, Nat.min_self, List.take_append_drop, hp] at hm
    simp only [Option.some.injEq, Prod.mk.injEq] at hm
    omega
theorem getBat_back {l : List UInt8} {rs : List Rn} {ds : List Sp} (h : getBat l = some (rs, ds)) : batB rs ds = l ∧ mayB rs ds = true ∧ (∀ r ∈ rs, putR r) ∧ (∀ s ∈ ds, wfSp s) ∧ l.length ≤ 20000 := by
  unfold getBat at h
  split at h
  · cases h
  · rename_i hl
    cases hq : parse l with
    | none => rw [hq] at h; cases h
    | some x =>
      obtain ⟨rs', ds', e⟩ := x
      rw [hq] at h
      simp only at h
      split at h
      · rename_i hc
        simp only [Option.some.injEq, Prod.mk.injEq] at h
        obtain ⟨rfl, rfl⟩ := h
        obtain ⟨b1, b2, b3, b4, _⟩ := parse_back hq
        rw [hc.1, List.take_length] at b2
        exact ⟨b2.symm, hc.2, b3, b4, by omega⟩
      · cases h

end Go.Proofs.YthpminlfbjedpaaDoor
