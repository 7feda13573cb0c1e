/-
  Plain mathematics of sets of spans (a client, From, To), without memory; no claim stands here.
-/
namespace Go.Proofs.YthpminlfbjedpaaDoor
set_option linter.unusedVariables false

/-- a may stand ahead of b in a set -/
def apartB (a b : Int × Int × Int) : Bool := decide (a.1 < b.1 ∨ (a.1 = b.1 ∧ a.2.2 < b.2.1))
def goodB (p : Int × Int × Int) : Bool := decide (0 < p.1 ∧ p.2.1 < p.2.2)
theorem apart_iff {a b : Int × Int × Int} : apartB a b = true ↔ (a.1 < b.1 ∨ (a.1 = b.1 ∧ a.2.2 < b.2.1)) := by simp [apartB]
theorem good_iff {p : Int × Int × Int} : goodB p = true ↔ (0 < p.1 ∧ p.2.1 < p.2.2) := by simp [goodB]
theorem apart_not {a b : Int × Int × Int} : apartB a b = false ↔ ¬ (a.1 < b.1 ∨ (a.1 = b.1 ∧ a.2.2 < b.2.1)) := by rw [← apart_iff]; simp
theorem good_not {p : Int × Int × Int} : goodB p = false ↔ ¬ (0 < p.1 ∧ p.2.1 < p.2.2) := by rw [← good_iff]; simp

def wfS (l : List (Int × Int × Int)) : Prop := ∀ p ∈ l, 0 ≤ p.1 ∧ p.1 ≤ 4294967295 ∧ 0 ≤ p.2.1 ∧ p.2.1 ≤ 4294967295 ∧ 0 ≤ p.2.2 ∧ p.2.2 ≤ 4294967295

def maySp : Int × Int × Int → List (Int × Int × Int) → Bool
  | _, [] => true
  | a, p :: l => (apartB a p && goodB p) && maySp p l
def zS : Int × Int × Int := (0, 0, 0)

theorem mayS_cons {a p : Int × Int × Int} {l : List (Int × Int × Int)} : maySp a (p :: l) = true ↔ (a.1 < p.1 ∨ (a.1 = p.1 ∧ a.2.2 < p.2.1)) ∧ 0 < p.1 ∧ p.2.1 < p.2.2 ∧ maySp p l = true := by
  simp [maySp, apart_iff, good_iff, and_assoc]
theorem mayS_mono {a b : Int × Int × Int} {l : List (Int × Int × Int)} (h : maySp b l = true) (hg : b.2.1 < b.2.2) (ha : a.1 < b.1 ∨ (a.1 = b.1 ∧ a.2.2 < b.2.1)) : maySp a l = true := by
  cases l with
  | nil => rfl
  | cons p l => rw [mayS_cons] at h ⊢; exact ⟨by omega, h.2⟩
theorem mayS_from {a : Int × Int × Int} {l : List (Int × Int × Int)} (h : maySp a l = true) : maySp zS l = true := by
  cases l with
  | nil => rfl
  | cons p l => rw [mayS_cons] at h ⊢; exact ⟨.inl h.2.1, h.2⟩

def inS (p : Int × Int × Int) (c k : Int) : Bool := decide (p.1 = c ∧ p.2.1 ≤ k ∧ k < p.2.2)
theorem inS_iff {p : Int × Int × Int} {c k : Int} : inS p c k = true ↔ (p.1 = c ∧ p.2.1 ≤ k ∧ k < p.2.2) := by simp [inS]
theorem inS_not {p : Int × Int × Int} {c k : Int} : inS p c k = false ↔ ¬ (p.1 = c ∧ p.2.1 ≤ k ∧ k < p.2.2) := by rw [← inS_iff]; simp
def memS : List (Int × Int × Int) → Int → Int → Bool
  | [], _, _ => false
  | p :: l, c, k => inS p c k || memS l c k

theorem memS_append : ∀ (l m : List (Int × Int × Int)) (c k : Int), memS (l ++ m) c k = (memS l c k || memS m c k)
  | [], m, c, k => by simp [memS]
  | p :: l, m, c, k => by rw [List.cons_append, memS, memS, memS_append l m, Bool.or_assoc]
theorem memS_perm {l m : List (Int × Int × Int)} (h : l.Perm m) (c k : Int) : memS l c k = memS m c k := by
  induction h with
  | nil => rfl
  | cons x _ ih => rw [memS, memS, ih]
  | swap x y l => rw [memS, memS, memS, memS, ← Bool.or_assoc, ← Bool.or_assoc, Bool.or_comm (inS y c k)]
  | trans _ _ i1 i2 => rw [i1, i2]
theorem memS_good : ∀ {l : List (Int × Int × Int)} (hw : wfS l) (c k : Int), memS (l.filter goodB) c k = (decide (0 < c) && memS l c k)
  | [], _, c, k => by simp [memS]
  | p :: l, hw, c, k => by
    have ih := memS_good (l := l) (fun q hq => hw q (List.mem_cons_of_mem _ hq)) c k
    have hp := hw p (List.mem_cons_self ..)
    rw [memS]
    cases hg : goodB p with
    | true =>
      rw [List.filter_cons_of_pos hg, memS, ih]
      rw [good_iff] at hg
      cases hi : inS p c k with
      | false => simp
      | true => rw [inS_iff] at hi; simp; omega
    | false =>
      rw [List.filter_cons_of_neg (by simp [hg]), ih]
      rw [good_not] at hg
      cases hi : inS p c k with
      | false => simp
      | true =>
        rw [inS_iff] at hi
        have : ¬ 0 < c := by omega
        simp [this]

/-- nothing of a set stands at or ahead of what stands ahead of it -/
theorem memS_above : ∀ {l : List (Int × Int × Int)} {a : Int × Int × Int} {c k : Int}, maySp a l = true → (c < a.1 ∨ (c = a.1 ∧ k ≤ a.2.2)) → memS l c k = false
  | [], _, _, _, _, _ => rfl
  | p :: l, a, c, k, h, hc => by
    rw [mayS_cons] at h
    rw [memS, memS_above h.2.2.2 (by omega), Bool.or_false, inS_not]
    omega

theorem memS_head (p : Int × Int × Int) (l : List (Int × Int × Int)) (h : p.2.1 < p.2.2) : memS (p :: l) p.1 p.2.1 = true := by
  rw [memS, inS_iff.2 ⟨rfl, by omega, h⟩, Bool.true_or]

theorem heads_le {p q : Int × Int × Int} {l m : List (Int × Int × Int)} (hp : p.2.1 < p.2.2) (hq : q.2.1 < q.2.2) (hm : maySp q m = true) (h : ∀ c k, memS (p :: l) c k = memS (q :: m) c k) : q.1 < p.1 ∨ (q.1 = p.1 ∧ q.2.1 ≤ p.2.1) := by
  have h1 := h p.1 p.2.1
  rw [memS_head p l hp, memS] at h1
  cases hi : inS q p.1 p.2.1 with
  | true => rw [inS_iff] at hi; omega
  | false =>
    rw [hi, Bool.false_or] at h1
    rcases Int.lt_trichotomy q.1 p.1 with g | g | g
    · exact .inl g
    · rcases Int.lt_or_le q.2.2 p.2.1 with k | k
      · exact .inr ⟨g, by omega⟩
      · rw [memS_above hm (.inr ⟨g.symm, k⟩)] at h1; cases h1
    · rw [memS_above hm (.inl g)] at h1; cases h1
theorem heads_to {p q : Int × Int × Int} {l m : List (Int × Int × Int)} (hl : maySp p l = true) (h : ∀ c k, memS (p :: l) c k = memS (q :: m) c k) (h1 : p.1 = q.1) (h2 : p.2.1 = q.2.1) (hp : p.2.1 < p.2.2) : q.2.2 ≤ p.2.2 := by
  rcases Int.lt_or_le p.2.2 q.2.2 with g | g
  · have := h p.1 p.2.2
    rw [memS, memS, memS_above hl (.inr ⟨rfl, Int.le_refl _⟩), inS_iff.2 (show q.1 = p.1 ∧ q.2.1 ≤ p.2.2 ∧ p.2.2 < q.2.2 by omega), inS_not.2 (show ¬ (p.1 = p.1 ∧ p.2.1 ≤ p.2.2 ∧ p.2.2 < p.2.2) by omega)] at this
    simp at this
  · exact g

/-- P3.3: sets with the same Ids are the same -/
theorem set_ext : ∀ {l m : List (Int × Int × Int)} {a b : Int × Int × Int}, maySp a l = true → maySp b m = true → (∀ c k, memS l c k = memS m c k) → l = m
  | [], [], _, _, _, _, _ => rfl
  | [], q :: m, a, b, _, hm, h => by
    rw [mayS_cons] at hm
    have := h q.1 q.2.1
    rw [memS_head q m hm.2.2.1] at this
    cases this
  | p :: l, [], a, b, hl, _, h => by
    rw [mayS_cons] at hl
    have := h p.1 p.2.1
    rw [memS_head p l hl.2.2.1] at this
    cases this
  | p :: l, q :: m, a, b, hl, hm, h => by
    rw [mayS_cons] at hl hm
    have e1 := heads_le hl.2.2.1 hm.2.2.1 hm.2.2.2 h
    have e2 := heads_le hm.2.2.1 hl.2.2.1 hl.2.2.2 (fun c k => (h c k).symm)
    have e3 := heads_to hl.2.2.2 h (by omega) (by omega) hl.2.2.1
    have e4 := heads_to hm.2.2.2 (fun c k => (h c k).symm) (by omega) (by omega) hm.2.2.1
    have e : p = q := by
      obtain ⟨p1, p2, p3⟩ := p
      obtain ⟨q1, q2, q3⟩ := q
      simp only at e1 e2 e3 e4
      have : p1 = q1 := by omega
      have : p2 = q2 := by omega
      have : p3 = q3 := by omega
      simp_all
    subst e
    rw [set_ext hl.2.2.2 hm.2.2.2 fun c k => ?_]
    have hck := h c k
    rw [memS, memS] at hck
    cases hi : inS p c k with
    | false => rw [hi] at hck; simpa using hck
    | true =>
      rw [inS_iff] at hi
      rw [memS_above hl.2.2.2 (by omega), memS_above hm.2.2.2 (by omega)]

/-- a set with a span more, as the reference lays it -/
def mergeS (s x : Int × Int × Int) : Int × Int × Int := (s.1, min s.2.1 x.2.1, max s.2.2 x.2.2)
def layOf : List (Int × Int × Int) → Int × Int × Int → List (Int × Int × Int)
  | [], s => [s]
  | x :: l, s => if apartB x s then x :: layOf l s else if apartB s x then s :: x :: l else layOf l (mergeS s x)

theorem lay_may : ∀ {l : List (Int × Int × Int)} {a s : Int × Int × Int}, maySp a l = true → (a.1 < s.1 ∨ (a.1 = s.1 ∧ a.2.2 < s.2.1)) → 0 < s.1 → s.2.1 < s.2.2 → maySp a (layOf l s) = true
  | [], a, s, _, h1, h2, h3 => by rw [layOf, mayS_cons]; exact ⟨h1, h2, h3, rfl⟩
  | x :: l, a, s, h, h1, h2, h3 => by
    rw [mayS_cons] at h
    rw [layOf]
    cases hx : apartB x s with
    | true =>
      rw [apart_iff] at hx
      rw [if_pos rfl, mayS_cons]
      exact ⟨h.1, h.2.1, h.2.2.1, lay_may h.2.2.2 hx h2 h3⟩
    | false =>
      rw [if_neg (by simp)]
      cases hs : apartB s x with
      | true =>
        rw [apart_iff] at hs
        rw [if_pos rfl, mayS_cons, mayS_cons]
        exact ⟨h1, h2, h3, hs, h.2⟩
      | false =>
        rw [apart_not] at hx hs
        rw [if_neg (by simp)]
        refine lay_may (mayS_mono h.2.2.2 h.2.2.1 h.1) ?_ h2 ?_
        · simp only [mergeS]; omega
        · simp only [mergeS]; omega
theorem merge_in {s x : Int × Int × Int} (h1 : s.2.1 < s.2.2) (h2 : x.2.1 < x.2.2) (ha : apartB x s = false) (hb : apartB s x = false) (c k : Int) : inS (mergeS s x) c k = (inS s c k || inS x c k) := by
  rw [apart_not] at ha hb
  rw [Bool.eq_iff_iff, Bool.or_eq_true, inS_iff, inS_iff, inS_iff]
  simp only [mergeS]
  omega
theorem lay_mem : ∀ {l : List (Int × Int × Int)} {a s : Int × Int × Int}, maySp a l = true → s.2.1 < s.2.2 → ∀ c k, memS (layOf l s) c k = (inS s c k || memS l c k)
  | [], a, s, _, h3, c, k => by simp [layOf, memS]
  | x :: l, a, s, h, h3, c, k => by
    rw [mayS_cons] at h
    rw [layOf]
    cases hx : apartB x s with
    | true => rw [if_pos rfl, memS, memS, lay_mem h.2.2.2 h3, ← Bool.or_assoc, ← Bool.or_assoc, Bool.or_comm (inS x c k)]
    | false =>
      rw [if_neg (by simp)]
      cases hs : apartB s x with
      | true => rw [if_pos rfl, memS]
      | false => rw [if_neg (by simp), lay_mem h.2.2.2 (by simp only [mergeS]; omega), merge_in h3 h.2.2.1 hx hs, memS, Bool.or_assoc]
theorem lay_len : ∀ (l : List (Int × Int × Int)) (s : Int × Int × Int), (layOf l s).length ≤ l.length + 1
  | [], s => by simp [layOf]
  | x :: l, s => by
    rw [layOf]
    split
    · have := lay_len l s; simp only [List.length_cons]; omega
    · split
      · simp
      · have := lay_len l (mergeS s x); simp only [List.length_cons]; omega
theorem lay_wf : ∀ {l : List (Int × Int × Int)} {s : Int × Int × Int}, wfS l → wfS [s] → wfS (layOf l s)
  | [], s, _, h => by rw [layOf]; exact h
  | x :: l, s, hl, hs => by
    have hx := hl x (List.mem_cons_self ..)
    have hl' : wfS l := fun q hq => hl q (List.mem_cons_of_mem _ hq)
    have hs' := hs s (List.mem_cons_self ..)
    rw [layOf]
    split
    · have ih := lay_wf hl' hs
      intro q hq
      rcases List.mem_cons.1 hq with e | e
      · rw [e]; exact hx
      · exact ih q e
    · split
      · intro q hq
        rcases List.mem_cons.1 hq with e | e
        · rw [e]; exact hs'
        · exact hl q e
      · refine lay_wf hl' ?_
        intro q hq
        rw [List.mem_singleton] at hq
        subst hq
        simp only [mergeS]
        omega

/-- how many Ids -/
def cntS : List (Int × Int × Int) → Int
  | [] => 0
  | p :: l => (p.2.2 - p.2.1) + cntS l
theorem lay_cnt : ∀ {l : List (Int × Int × Int)} {a s : Int × Int × Int}, maySp a l = true → s.2.1 < s.2.2 → cntS (layOf l s) ≤ cntS l + (s.2.2 - s.2.1)
  | [], a, s, _, _ => by simp [layOf, cntS]
  | x :: l, a, s, h, h3 => by
    rw [mayS_cons] at h
    rw [layOf, cntS]
    cases hx : apartB x s with
    | true =>
      have := lay_cnt h.2.2.2 h3
      rw [if_pos rfl, cntS]; omega
    | false =>
      rw [if_neg (by simp)]
      cases hs : apartB s x with
      | true => rw [if_pos rfl, cntS, cntS]; omega
      | false =>
        have := lay_cnt (s := mergeS s x) h.2.2.2 (by simp only [mergeS]; omega)
        rw [if_neg (by simp)]
        rw [apart_not] at hx hs
        simp only [mergeS] at this ⊢
        omega
theorem cnt_nonneg : ∀ {l : List (Int × Int × Int)} {a : Int × Int × Int}, maySp a l = true → 0 ≤ cntS l
  | [], _, _ => by simp [cntS]
  | p :: l, a, h => by
    rw [mayS_cons] at h
    have := cnt_nonneg h.2.2.2
    rw [cntS]; omega
theorem cnt_le : ∀ {l : List (Int × Int × Int)}, wfS l → cntS l ≤ 4294967295 * (l.length : Int)
  | [], _ => by simp [cntS]
  | p :: l, h => by
    have := cnt_le (l := l) fun q hq => h q (List.mem_cons_of_mem _ hq)
    have hp := h p (List.mem_cons_self ..)
    rw [cntS, List.length_cons]; omega

/-- the reference's set: each good one is laid into what is there -/
def setGo : List (Int × Int × Int) → List (Int × Int × Int) → List (Int × Int × Int)
  | o, [] => o
  | o, p :: l => setGo (if goodB p then layOf o p else o) l
theorem setGo_cons (o : List (Int × Int × Int)) (p : Int × Int × Int) (l : List (Int × Int × Int)) : setGo o (p :: l) = setGo (if goodB p then layOf o p else o) l := rfl
def setOfS (l : List (Int × Int × Int)) : List (Int × Int × Int) := setGo [] l

theorem setGo_may : ∀ {l o : List (Int × Int × Int)}, maySp zS o = true → maySp zS (setGo o l) = true
  | [], o, h => h
  | p :: l, o, h => by
    rw [setGo]
    refine setGo_may ?_
    cases hg : goodB p with
    | false => exact h
    | true =>
      rw [good_iff] at hg
      rw [if_pos rfl]
      exact lay_may h (.inl hg.1) hg.1 hg.2
theorem setGo_mem : ∀ {l o : List (Int × Int × Int)}, maySp zS o = true → ∀ c k, memS (setGo o l) c k = (memS o c k || memS (l.filter goodB) c k)
  | [], o, h, c, k => by simp [setGo, memS]
  | p :: l, o, h, c, k => by
    rw [setGo]
    cases hg : goodB p with
    | false => rw [if_neg (by simp), List.filter_cons_of_neg (by simp [hg]), setGo_mem h]
    | true =>
      rw [List.filter_cons_of_pos hg]
      rw [good_iff] at hg
      rw [if_pos rfl, setGo_mem (lay_may h (.inl hg.1) hg.1 hg.2), lay_mem h hg.2, memS, ← Bool.or_assoc, Bool.or_comm (memS o c k)]
theorem setGo_len : ∀ (l o : List (Int × Int × Int)), (setGo o l).length ≤ o.length + l.length
  | [], o => by simp [setGo]
  | p :: l, o => by
    rw [setGo]
    have h1 := setGo_len l (if goodB p then layOf o p else o)
    have h2 := lay_len o p
    rw [List.length_cons]
    split at h1 <;> rename_i hg
    · rw [if_pos hg]; omega
    · rw [if_neg hg]; omega
theorem setGo_wf : ∀ {l o : List (Int × Int × Int)}, wfS o → wfS l → wfS (setGo o l)
  | [], o, h, _ => h
  | p :: l, o, h, hl => by
    rw [setGo]
    refine setGo_wf ?_ fun q hq => hl q (List.mem_cons_of_mem _ hq)
    split
    · refine lay_wf h ?_
      intro q hq
      rw [List.mem_singleton] at hq
      subst hq
      exact hl q (List.mem_cons_self ..)
    · exact h
theorem setGo_cnt : ∀ {l o : List (Int × Int × Int)} {a : Int × Int × Int}, maySp zS o = true → maySp a l = true → cntS (setGo o l) ≤ cntS o + cntS l
  | [], o, a, h, _ => by simp [setGo, cntS]
  | p :: l, o, a, h, hl => by
    rw [mayS_cons] at hl
    rw [setGo, if_pos (good_iff.2 ⟨hl.2.1, hl.2.2.1⟩), cntS]
    have h1 := setGo_cnt (l := l) (lay_may h (.inl hl.2.1) hl.2.1 hl.2.2.1) hl.2.2.2
    have h2 := lay_cnt h hl.2.2.1
    omega

theorem setOf_may (l : List (Int × Int × Int)) : maySp zS (setOfS l) = true := setGo_may rfl
theorem setOf_mem (l : List (Int × Int × Int)) (c k : Int) : memS (setOfS l) c k = memS (l.filter goodB) c k := by rw [setOfS, setGo_mem rfl, memS, Bool.false_or]
theorem setOf_len (l : List (Int × Int × Int)) : (setOfS l).length ≤ l.length := by have := setGo_len l []; simpa [setOfS] using this
theorem setOf_wf {l : List (Int × Int × Int)} (h : wfS l) : wfS (setOfS l) := setGo_wf (by intro p hp; cases hp) h
/-- what is a set, and has the Ids of these, is the set of these -/
theorem setOf_is {l m : List (Int × Int × Int)} {a : Int × Int × Int} (h : maySp a m = true) (hm : ∀ c k, memS m c k = memS (l.filter goodB) c k) : m = setOfS l :=
  set_ext h (setOf_may l) fun c k => by rw [hm, setOf_mem]
theorem may_good : ∀ {l : List (Int × Int × Int)} {a : Int × Int × Int}, maySp a l = true → l.filter goodB = l
  | [], _, _ => rfl
  | p :: l, a, h => by
    rw [mayS_cons] at h
    rw [List.filter_cons_of_pos (good_iff.2 ⟨h.2.1, h.2.2.1⟩), may_good h.2.2.2]
theorem setOf_self {l : List (Int × Int × Int)} (h : maySp zS l = true) : setOfS l = l := (setOf_is h fun c k => by rw [may_good h]).symm
theorem setOf_rev (l : List (Int × Int × Int)) : setOfS l.reverse = setOfS l :=
  setOf_is (setOf_may _) fun c k => by rw [setOf_mem]; exact memS_perm ((List.reverse_perm l).filter _) c k
theorem setOf_both (l m : List (Int × Int × Int)) : setOfS (setOfS l ++ setOfS m) = setOfS (l ++ m) :=
  setOf_is (setOf_may _) fun c k => by rw [setOf_mem, List.filter_append, List.filter_append, memS_append, memS_append, may_good (setOf_may l), may_good (setOf_may m), setOf_mem, setOf_mem]
theorem setOf_two {l m : List (Int × Int × Int)} (h : maySp zS l = true) : setOfS (l ++ m) = setGo l m :=
  (setOf_is (setGo_may h) fun c k => by rw [setGo_mem h, List.filter_append, memS_append, may_good h]).symm
theorem cnt_both {l m : List (Int × Int × Int)} {a : Int × Int × Int} (h : maySp zS l = true) (hm : maySp a m = true) : cntS (setOfS (l ++ m)) ≤ cntS l + cntS m := by
  rw [setOf_two h]; exact setGo_cnt h hm

/-- spans that rise, put in one by one, at the end -/
def ltB (a b : Int × Int × Int) : Bool := decide (a.1 < b.1 ∨ (a.1 = b.1 ∧ a.2.1 < b.2.1))
theorem lt_iff {a b : Int × Int × Int} : ltB a b = true ↔ (a.1 < b.1 ∨ (a.1 = b.1 ∧ a.2.1 < b.2.1)) := by simp [ltB]
theorem lt_not {a b : Int × Int × Int} : ltB a b = false ↔ ¬ (a.1 < b.1 ∨ (a.1 = b.1 ∧ a.2.1 < b.2.1)) := by rw [← lt_iff]; simp
def addOf (l : List (Int × Int × Int)) (s : Int × Int × Int) : List (Int × Int × Int) :=
  match l.getLast? with
  | none => [s]
  | some z => if apartB z s then l ++ [s] else l.dropLast ++ [(z.1, z.2.1, max z.2.2 s.2.2)]
def addAll : List (Int × Int × Int) → List (Int × Int × Int) → List (Int × Int × Int)
  | o, [] => o
  | o, s :: r => addAll (addOf o s) r
theorem addAll_cons (o : List (Int × Int × Int)) (s : Int × Int × Int) (r : List (Int × Int × Int)) : addAll o (s :: r) = addAll (addOf o s) r := rfl
theorem add_nil (s : Int × Int × Int) : addOf [] s = [s] := rfl
theorem add_snoc (l : List (Int × Int × Int)) (z s : Int × Int × Int) : addOf (l ++ [z]) s = if apartB z s then l ++ [z] ++ [s] else l ++ [(z.1, z.2.1, max z.2.2 s.2.2)] := by
  simp [addOf]
theorem add_len (l : List (Int × Int × Int)) (s : Int × Int × Int) : (addOf l s).length ≤ l.length + 1 := by
  rcases List.eq_nil_or_concat l with e | ⟨l0, z, e⟩
  · subst e; simp [add_nil]
  · rw [List.concat_eq_append] at e; subst e
    rw [add_snoc]; split <;> simp

def lastD : Int × Int × Int → List (Int × Int × Int) → Int × Int × Int
  | a, [] => a
  | _, p :: l => lastD p l
theorem mayS_snoc : ∀ {l : List (Int × Int × Int)} {a z : Int × Int × Int}, maySp a (l ++ [z]) = true ↔ maySp a l = true ∧ ((lastD a l).1 < z.1 ∨ ((lastD a l).1 = z.1 ∧ (lastD a l).2.2 < z.2.1)) ∧ 0 < z.1 ∧ z.2.1 < z.2.2
  | [], a, z => by rw [List.nil_append, mayS_cons]; simp [maySp, lastD]
  | p :: l, a, z => by
    rw [List.cons_append, mayS_cons, mayS_cons, mayS_snoc, lastD]
    simp only [and_assoc]
theorem lastD_snoc : ∀ (l : List (Int × Int × Int)) (a z : Int × Int × Int), lastD a (l ++ [z]) = z
  | [], a, z => rfl
  | p :: l, a, z => by rw [List.cons_append, lastD, lastD_snoc l]

def addsTo (o : List (Int × Int × Int)) (s : Int × Int × Int) : Prop := ∀ z, o.getLast? = some z → ltB s z = false
theorem add_may {o : List (Int × Int × Int)} {s : Int × Int × Int} (h : maySp zS o = true) (ha : addsTo o s) (h1 : 0 < s.1) (h2 : s.2.1 < s.2.2) :
    maySp zS (addOf o s) = true ∧ (∀ c k, memS (addOf o s) c k = (memS o c k || inS s c k)) ∧ ∀ t, ltB t s = false → addsTo (addOf o s) t := by
  rcases List.eq_nil_or_concat o with e | ⟨l0, z, e⟩
  · subst e
    rw [add_nil]
    refine ⟨mayS_cons.2 ⟨.inl h1, h1, h2, rfl⟩, fun c k => by simp [memS], fun t ht z hz => ?_⟩
    have : s = z := by simpa using hz
    rw [← this]; exact ht
  · rw [List.concat_eq_append] at e
    subst e
    have hz := ha z (by simp)
    rw [lt_not] at hz
    rw [add_snoc]
    have h' := h
    rw [mayS_snoc] at h'
    cases hx : apartB z s with
    | true =>
      rw [apart_iff] at hx
      rw [if_pos rfl]
      refine ⟨?_, fun c k => ?_, fun t ht y hy => ?_⟩
      · rw [mayS_snoc, lastD_snoc]; exact ⟨h, hx, h1, h2⟩
      · rw [memS_append]; simp [memS]
      · have : s = y := by simpa using hy
        rw [← this]; exact ht
    | false =>
      rw [apart_not] at hx
      rw [if_neg (by simp)]
      refine ⟨?_, fun c k => ?_, fun t ht y hy => ?_⟩
      · rw [mayS_snoc]; exact ⟨h'.1, h'.2.1, h'.2.2.1, by simp only; omega⟩
      · rw [memS_append, memS_append]
        simp only [memS, Bool.or_false]
        rw [Bool.or_assoc]
        congr 1
        rw [Bool.eq_iff_iff, Bool.or_eq_true, inS_iff, inS_iff, inS_iff]
        simp only
        omega
      · have : (z.1, z.2.1, max z.2.2 s.2.2) = y := by simpa using hy
        rw [← this]
        rw [lt_not] at ht ⊢
        simp only
        omega
theorem addAll_is : ∀ {r o : List (Int × Int × Int)}, maySp zS o = true → (∀ s ∈ r, addsTo o s) → (∀ s ∈ r, 0 < s.1 ∧ s.2.1 < s.2.2) → r.Pairwise (fun s t => ltB t s = false) →
    maySp zS (addAll o r) = true ∧ ∀ c k, memS (addAll o r) c k = (memS o c k || memS r c k)
  | [], o, h, _, _, _ => ⟨h, fun c k => by simp [addAll, memS]⟩
  | s :: r, o, h, ha, hg, hp => by
    rw [List.pairwise_cons] at hp
    have hs := hg s (List.mem_cons_self ..)
    obtain ⟨b1, b2, b3⟩ := add_may h (ha s (List.mem_cons_self ..)) hs.1 hs.2
    obtain ⟨c1, c2⟩ := addAll_is (r := r) b1 (fun t ht => b3 t (hp.1 t ht)) (fun t ht => hg t (List.mem_cons_of_mem _ ht)) hp.2
    rw [addAll]
    exact ⟨c1, fun c k => by rw [c2, b2, memS, Bool.or_assoc]⟩
/-- Of: what is put in one by one of what rises is the set -/
theorem addAll_set {l r : List (Int × Int × Int)} (hr : r.Perm (l.filter goodB)) (hp : r.Pairwise (fun s t => ltB t s = false)) : addAll [] r = setOfS l := by
  obtain ⟨h1, h2⟩ := addAll_is (r := r) (o := []) rfl (fun s _ z hz => by simp at hz) (fun s hs => by
    have := hr.mem_iff.1 hs
    rw [List.mem_filter, good_iff] at this
    exact this.2) hp
  exact setOf_is h1 fun c k => by rw [h2, memS, Bool.false_or]; exact memS_perm hr c k

/-- two that rise, one -/
def mixS : List (Int × Int × Int) → List (Int × Int × Int) → List (Int × Int × Int)
  | [], b => b
  | p :: a, [] => p :: a
  | p :: a, q :: b => if ltB p q then p :: mixS a (q :: b) else q :: mixS (p :: a) b
termination_by a b => a.length + b.length
theorem mix_nil (b : List (Int × Int × Int)) : mixS [] b = b := by rw [mixS]
theorem mix_end (a : List (Int × Int × Int)) : mixS a [] = a := by cases a <;> rw [mixS]
theorem mix_lt (a b : List (Int × Int × Int)) {p q : Int × Int × Int} (h : ltB p q = true) : mixS (p :: a) (q :: b) = p :: mixS a (q :: b) := by rw [mixS, if_pos h]
theorem mix_ge (a b : List (Int × Int × Int)) {p q : Int × Int × Int} (h : ltB p q = false) : mixS (p :: a) (q :: b) = q :: mixS (p :: a) b := by rw [mixS, if_neg (by simp [h])]
theorem mix_perm : ∀ (a b : List (Int × Int × Int)), (mixS a b).Perm (a ++ b)
  | [], b => by rw [mix_nil]; exact List.Perm.refl _
  | p :: a, [] => by rw [mix_end, List.append_nil]
  | p :: a, q :: b => by
    cases h : ltB p q with
    | true => rw [mix_lt a b h]; exact (mix_perm a (q :: b)).cons p
    | false =>
      rw [mix_ge a b h]
      exact ((mix_perm (p :: a) b).cons q).trans (List.perm_middle (l₁ := p :: a)).symm
termination_by a b => a.length + b.length
theorem mix_rise : ∀ {a b : List (Int × Int × Int)}, a.Pairwise (fun s t => ltB t s = false) → b.Pairwise (fun s t => ltB t s = false) → (mixS a b).Pairwise (fun s t => ltB t s = false)
  | [], b, _, hb => by rw [mix_nil]; exact hb
  | p :: a, [], ha, _ => by rw [mix_end]; exact ha
  | p :: a, q :: b, ha, hb => by
    have ha' := List.pairwise_cons.1 ha
    have hb' := List.pairwise_cons.1 hb
    cases h : ltB p q with
    | true =>
      rw [mix_lt a b h, List.pairwise_cons]
      refine ⟨fun t ht => ?_, mix_rise ha'.2 hb⟩
      rw [lt_iff] at h
      rcases List.mem_append.1 ((mix_perm a (q :: b)).mem_iff.1 ht) with g | g
      · exact ha'.1 t g
      · rcases List.mem_cons.1 g with e | e
        · subst e; rw [lt_not]; omega
        · have := hb'.1 t e
          rw [lt_not] at this ⊢; omega
    | false =>
      rw [mix_ge a b h, List.pairwise_cons]
      refine ⟨fun t ht => ?_, mix_rise ha hb'.2⟩
      rw [lt_not] at h
      rcases List.mem_append.1 ((mix_perm (p :: a) b).mem_iff.1 ht) with g | g
      · rcases List.mem_cons.1 g with e | e
        · subst e; rw [lt_not]; exact h
        · have := ha'.1 t e
          rw [lt_not] at this ⊢; omega
      · exact hb'.1 t g
termination_by a b => a.length + b.length
theorem may_all : ∀ {l : List (Int × Int × Int)} {a : Int × Int × Int}, maySp a l = true → ∀ p ∈ l, 0 < p.1 ∧ p.2.1 < p.2.2 ∧ (a.1 < p.1 ∨ (a.1 = p.1 ∧ a.2.2 < p.2.1))
  | [], _, _, p, hp => by cases hp
  | q :: l, a, h, p, hp => by
    rw [mayS_cons] at h
    rcases List.mem_cons.1 hp with e | e
    · subst e; exact ⟨h.2.1, h.2.2.1, h.1⟩
    · have := may_all h.2.2.2 p e
      exact ⟨this.1, this.2.1, by omega⟩
theorem may_rise : ∀ {l : List (Int × Int × Int)} {a : Int × Int × Int}, maySp a l = true → l.Pairwise (fun s t => ltB t s = false)
  | [], _, _ => List.Pairwise.nil
  | p :: l, a, h => by
    rw [mayS_cons] at h
    rw [List.pairwise_cons]
    refine ⟨fun t ht => ?_, may_rise h.2.2.2⟩
    have := may_all h.2.2.2 t ht
    rw [lt_not]; omega
/-- Join -/
theorem join_is {a b : List (Int × Int × Int)} (ha : maySp zS a = true) (hb : maySp zS b = true) : addAll [] (mixS a b) = setOfS (a ++ b) :=
  addAll_set (by rw [List.filter_append, may_good ha, may_good hb]; exact mix_perm a b) (mix_rise (may_rise ha) (may_rise hb))

/-- on which side of an Id a span stands -/
def sideOf (p : Int × Int × Int) (c k : Int) : Int := if p.1 < c then -1 else if c < p.1 then 1 else if p.2.2 ≤ k then -1 else if k < p.2.1 then 1 else 0
theorem side_neg {p : Int × Int × Int} {c k : Int} : sideOf p c k < 0 ↔ (p.1 < c ∨ (p.1 = c ∧ p.2.2 ≤ k)) := by
  unfold sideOf; (repeat' split) <;> omega
theorem side_zero {p : Int × Int × Int} {c k : Int} : sideOf p c k = 0 ↔ (p.1 = c ∧ p.2.1 ≤ k ∧ k < p.2.2) := by
  unfold sideOf; (repeat' split) <;> omega
theorem may_drop_at : ∀ {l : List (Int × Int × Int)} {a : Int × Int × Int} {i : Nat} {p : Int × Int × Int}, maySp a l = true → l[i]? = some p → maySp p (l.drop (i + 1)) = true ∧ p.2.1 < p.2.2
  | [], _, _, _, _, h => by simp at h
  | q :: l, a, 0, p, hm, h => by
    rw [mayS_cons] at hm
    have e : q = p := by simpa using h
    subst e
    exact ⟨by simpa using hm.2.2.2, hm.2.2.1⟩
  | q :: l, a, i + 1, p, hm, h => by
    rw [mayS_cons] at hm
    have := may_drop_at (i := i) hm.2.2.2 (by simpa using h)
    simpa using this
theorem may_pair {l : List (Int × Int × Int)} {a : Int × Int × Int} {i j : Nat} {p q : Int × Int × Int} (hm : maySp a l = true) (hij : i < j) (hp : l[i]? = some p) (hq : l[j]? = some q) :
    (p.1 < q.1 ∨ (p.1 = q.1 ∧ p.2.2 < q.2.1)) ∧ p.2.1 < p.2.2 ∧ q.2.1 < q.2.2 := by
  obtain ⟨h1, h2⟩ := may_drop_at hm hp
  have h3 : q ∈ l.drop (i + 1) := List.mem_of_getElem? (i := j - (i + 1)) (by rw [List.getElem?_drop, show i + 1 + (j - (i + 1)) = j by omega]; exact hq)
  have := may_all h1 q h3
  exact ⟨this.2.2, h2, this.2.1⟩
theorem memS_none : ∀ {l : List (Int × Int × Int)} {c k : Int}, (∀ p ∈ l, inS p c k = false) → memS l c k = false
  | [], _, _, _ => rfl
  | p :: l, c, k, h => by rw [memS, h p (List.mem_cons_self ..), memS_none fun q hq => h q (List.mem_cons_of_mem _ hq)]; rfl
theorem has_found {l : List (Int × Int × Int)} {a : Int × Int × Int} {c k : Int} {i : Nat} (hm : maySp a l = true) (h1 : ∀ t p, t < i → l[t]? = some p → sideOf p c k < 0) (h2 : ∀ p, l[i]? = some p → 0 ≤ sideOf p c k) :
    memS l c k = match l[i]? with | none => false | some p => decide (sideOf p c k = 0) := by
  have ht : memS (l.take i) c k = false := memS_none fun p hp => by
    obtain ⟨t, hti⟩ := List.getElem?_of_mem hp
    rw [List.getElem?_take] at hti
    split at hti
    · rename_i hlt
      have := h1 t p hlt hti
      rw [side_neg] at this
      rw [inS_not]; omega
    · cases hti
  have hl : memS l c k = memS (l.drop i) c k := by
    conv => lhs; rw [← List.take_append_drop i l]
    rw [memS_append, ht, Bool.false_or]
  rw [hl]
  cases hi : l[i]? with
  | none =>
    rw [List.drop_eq_nil_of_le (List.getElem?_eq_none_iff.1 hi)]; rfl
  | some p =>
    obtain ⟨hk, e⟩ := List.getElem?_eq_some_iff.1 hi
    rw [List.drop_eq_getElem_cons hk, e, memS]
    have g := h2 p hi
    have hd := (may_drop_at hm hi).1
    by_cases hz : sideOf p c k = 0
    · rw [side_zero] at hz
      simp only
      rw [inS_iff.2 hz, Bool.true_or, decide_eq_true (side_zero.2 hz)]
    · have hn : ¬ sideOf p c k < 0 := by omega
      simp only
      rw [decide_eq_false hz]
      rw [side_zero] at hz
      rw [side_neg] at hn
      rw [inS_not.2 hz, Bool.false_or]
      exact memS_above hd (by omega)

end Go.Proofs.YthpminlfbjedpaaDoor
