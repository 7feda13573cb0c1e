/-
  Plain mathematics of vectors (lists of a client and its Next), without memory; no claim stands here.
-/
namespace Go.Proofs.Ytdpmhhfpjpdfiaa
set_option linter.unusedVariables false

def nextOf : List (Int × Int) → Int → Int
  | [], _ => 0
  | p :: l, c => if p.1 = c then p.2 else nextOf l c

def mayFrom : Int → List (Int × Int) → Bool
  | _, [] => true
  | a, p :: l => decide (a < p.1 ∧ 0 < p.2) && mayFrom p.1 l

theorem may_cons {a : Int} {p : Int × Int} {l : List (Int × Int)} : mayFrom a (p :: l) = true ↔ a < p.1 ∧ 0 < p.2 ∧ mayFrom p.1 l = true := by
  simp [mayFrom, and_assoc]

theorem may_mono {a a' : Int} {l : List (Int × Int)} (h : mayFrom a l = true) (ha : a' ≤ a) : mayFrom a' l = true := by
  cases l with
  | nil => rfl
  | cons p l => rw [may_cons] at h ⊢; exact ⟨by omega, h.2.1, h.2.2⟩

theorem next_above : ∀ {l : List (Int × Int)} {a c : Int}, mayFrom a l = true → c ≤ a → nextOf l c = 0
  | [], _, _, _, _ => rfl
  | p :: l, a, c, h, hc => by
    rw [may_cons] at h
    rw [nextOf, if_neg (by omega)]
    exact next_above h.2.2 (by omega)

theorem next_nonneg : ∀ {l : List (Int × Int)} {a : Int} (c : Int), mayFrom a l = true → 0 ≤ nextOf l c
  | [], _, _, _ => by simp [nextOf]
  | p :: l, a, c, h => by
    rw [may_cons] at h
    rw [nextOf]
    split
    · omega
    · exact next_nonneg c h.2.2

theorem next_ext : ∀ {l m : List (Int × Int)} {a : Int}, mayFrom a l = true → mayFrom a m = true → (∀ c, nextOf l c = nextOf m c) → l = m
  | [], [], _, _, _, _ => rfl
  | [], q :: m, a, _, hm, h => by
    rw [may_cons] at hm
    have := h q.1
    simp [nextOf] at this
    omega
  | p :: l, [], a, hl, _, h => by
    rw [may_cons] at hl
    have := h p.1
    simp [nextOf] at this
    omega
  | p :: l, q :: m, a, hl, hm, h => by
    have hl0 := hl
    have hm0 := hm
    rw [may_cons] at hl hm
    rcases Int.lt_trichotomy p.1 q.1 with g | g | g
    · have h1 := h p.1
      rw [nextOf, if_pos rfl, nextOf, if_neg (by omega), next_above hm.2.2 (by omega)] at h1
      omega
    · have h1 := h p.1
      rw [nextOf, if_pos rfl, nextOf, if_pos g.symm] at h1
      have e : p = q := Prod.ext g h1
      subst e
      congr 1
      refine next_ext hl.2.2 hm.2.2 fun c => ?_
      by_cases hc : p.1 = c
      · rw [next_above hl.2.2 (by omega), next_above hm.2.2 (by omega)]
      · have := h c
        rwa [nextOf, if_neg hc, nextOf, if_neg hc] at this
    · have h1 := h q.1
      rw [nextOf, if_neg (by omega), next_above hl.2.2 (by omega), nextOf, if_pos rfl] at h1
      omega

def setOf : List (Int × Int) → Int → Int → List (Int × Int)
  | [], c, n => if n = 0 then [] else [(c, n)]
  | p :: l, c, n => if p.1 < c then p :: setOf l c n else (if n = 0 then [] else [(c, n)]) ++ (if p.1 = c then l else p :: l)

theorem set_len : ∀ (l : List (Int × Int)) (c n : Int), (setOf l c n).length ≤ l.length + 1
  | [], c, n => by simp only [setOf]; split <;> simp
  | p :: l, c, n => by
    have := set_len l c n
    simp only [setOf]
    split
    · simp; omega
    · split <;> split <;> simp <;> omega

theorem set_may : ∀ {l : List (Int × Int)} {a c n : Int}, mayFrom a l = true → a < c → 0 ≤ n → mayFrom a (setOf l c n) = true
  | [], a, c, n, _, hc, hn => by
    simp only [setOf]
    split
    · rfl
    · rw [may_cons]; exact ⟨hc, by simp only; omega, rfl⟩
  | p :: l, a, c, n, h, hc, hn => by
    rw [may_cons] at h
    simp only [setOf]
    split
    · rw [may_cons]; exact ⟨h.1, h.2.1, set_may h.2.2 (by assumption) hn⟩
    · split <;> split
      · exact may_mono h.2.2 (by omega)
      · simp only [List.nil_append]; rw [may_cons]; exact h
      · simp only [List.cons_append, List.nil_append]; rw [may_cons]; exact ⟨hc, by simp only; omega, may_mono h.2.2 (by simp only; omega)⟩
      · simp only [List.cons_append, List.nil_append]; rw [may_cons, may_cons]; exact ⟨hc, by simp only; omega, by simp only; omega, h.2.1, h.2.2⟩

theorem set_next : ∀ {l : List (Int × Int)} {a : Int} (c n d : Int), mayFrom a l = true → nextOf (setOf l c n) d = if d = c then n else nextOf l d
  | [], a, c, n, d, _ => by
    simp only [setOf]
    split
    · simp only [nextOf]; split <;> omega
    · simp only [nextOf]; split <;> split <;> omega
  | p :: l, a, c, n, d, h => by
    rw [may_cons] at h
    simp only [setOf]
    have ih := set_next (l := l) c n d h.2.2
    have ab : d ≤ p.1 → nextOf l d = 0 := fun g => next_above h.2.2 g
    split
    · simp only [nextOf, ih]
      split <;> split <;> first | rfl | omega
    · split <;> split
      · simp only [List.nil_append, nextOf]
        by_cases hd : d = c
        · rw [if_pos hd, ab (by omega)]; omega
        · rw [if_neg hd, if_neg (by omega)]
      · simp only [List.nil_append, nextOf]
        by_cases hd : d = c
        · rw [if_pos hd, if_neg (by omega), ab (by omega)]; omega
        · rw [if_neg hd]
      · simp only [List.cons_append, List.nil_append, nextOf]
        by_cases hd : d = c
        · rw [if_pos hd, if_pos hd.symm]
        · rw [if_neg hd, if_neg (by omega), if_neg (by omega)]
      · simp only [List.cons_append, List.nil_append, nextOf]
        by_cases hd : d = c
        · rw [if_pos hd, if_pos hd.symm]
        · rw [if_neg hd, if_neg (by omega)]

def idxOf : List (Int × Int) → Int → Nat
  | [], _ => 0
  | p :: l, c => if p.1 < c then idxOf l c + 1 else 0
def hasOf : List (Int × Int) → Int → Bool
  | [], _ => false
  | p :: l, c => if p.1 < c then hasOf l c else decide (p.1 = c)

theorem idx_has : ∀ {l : List (Int × Int)} {c : Int}, hasOf l c = true → ∃ n, l[idxOf l c]? = some (c, n)
  | [], _, h => by simp [hasOf] at h
  | p :: l, c, h => by
    simp only [hasOf] at h
    simp only [idxOf]
    split at h
    · rename_i g; rw [if_pos g]; obtain ⟨n, e⟩ := idx_has h; exact ⟨n, by simpa using e⟩
    · rename_i g; rw [if_neg g]; have : p.1 = c := by simpa using h
      exact ⟨p.2, by simp; exact Prod.ext this rfl⟩

theorem idx_next : ∀ {l : List (Int × Int)} {a c n : Int}, mayFrom a l = true → l[idxOf l c]? = some (c, n) → nextOf l c = n
  | [], _, _, _, _, h => by simp at h
  | p :: l, a, c, n, hm, h => by
    rw [may_cons] at hm
    simp only [idxOf] at h
    simp only [nextOf]
    split at h
    · rw [if_neg (by omega)]; exact idx_next hm.2.2 (by simpa using h)
    · have e : p = (c, n) := by simpa using h
      rw [e]; simp

theorem has_not : ∀ {l : List (Int × Int)} {a c : Int}, mayFrom a l = true → hasOf l c = false → nextOf l c = 0
  | [], _, _, _, _ => rfl
  | p :: l, a, c, hm, h => by
    rw [may_cons] at hm
    simp only [hasOf] at h
    simp only [nextOf]
    split at h
    · rw [if_neg (by omega)]; exact has_not hm.2.2 h
    · have : p.1 ≠ c := by simpa using h
      rw [if_neg this]; exact next_above hm.2.2 (by omega)

theorem idx_of : ∀ {l : List (Int × Int)} {c : Int} {i : Nat}, i ≤ l.length → (∀ t p, t < i → l[t]? = some p → p.1 < c) → (∀ p, l[i]? = some p → c ≤ p.1) → idxOf l c = i
  | [], _, i, hi, _, _ => by simp at hi; simp [idxOf, hi]
  | p :: l, c, 0, _, _, h2 => by
    have := h2 p (by simp)
    rw [idxOf, if_neg (by omega)]
  | p :: l, c, i + 1, hi, h1, h2 => by
    have := h1 0 p (by omega) (by simp)
    rw [idxOf, if_pos this, idx_of (by simpa using hi) (fun t q ht hq => h1 (t + 1) q (by omega) (by simpa using hq)) (fun q hq => h2 q (by simpa using hq))]

theorem has_at : ∀ {l : List (Int × Int)} {c : Int} {p : Int × Int}, l[idxOf l c]? = some p → hasOf l c = decide (p.1 = c)
  | [], _, _, h => by simp at h
  | q :: l, c, p, h => by
    simp only [idxOf] at h
    simp only [hasOf]
    split at h
    · rename_i g; rw [if_pos g]; exact has_at (by simpa using h)
    · rename_i g; rw [if_neg g]; have e : q = p := by simpa using h
      rw [e]
theorem has_end : ∀ {l : List (Int × Int)} {c : Int}, idxOf l c = l.length → hasOf l c = false
  | [], _, _ => rfl
  | q :: l, c, h => by
    simp only [idxOf] at h
    simp only [hasOf]
    split at h
    · rename_i g; rw [if_pos g]; exact has_end (by simpa using h)
    · simp at h

theorem may_above : ∀ {l : List (Int × Int)} {a : Int} {j : Nat} {q : Int × Int}, mayFrom a l = true → l[j]? = some q → a < q.1
  | [], _, _, _, _, h => by simp at h
  | p :: l, a, 0, q, hm, h => by rw [may_cons] at hm; have e : p = q := by simpa using h
                                 subst e; omega
  | p :: l, a, j + 1, q, hm, h => by rw [may_cons] at hm; have := may_above (j := j) hm.2.2 (by simpa using h); omega

theorem may_sorted : ∀ {l : List (Int × Int)} {a : Int} {i j : Nat} {p q : Int × Int}, mayFrom a l = true → i < j → l[i]? = some p → l[j]? = some q → p.1 < q.1
  | [], _, _, _, _, _, _, _, h, _ => by simp at h
  | x :: l, a, 0, j + 1, p, q, hm, _, h, g => by
    rw [may_cons] at hm
    have e : x = p := by simpa using h
    subst e
    exact may_above (j := j) hm.2.2 (by simpa using g)
  | x :: l, a, i + 1, j + 1, p, q, hm, hij, h, g => by
    rw [may_cons] at hm
    exact may_sorted (i := i) (j := j) hm.2.2 (by omega) (by simpa using h) (by simpa using g)

def mergeOf : List (Int × Int) → List (Int × Int) → List (Int × Int)
  | [], b => b
  | p :: a, [] => p :: a
  | p :: a, q :: b => if p.1 < q.1 then p :: mergeOf a (q :: b) else if q.1 < p.1 then q :: mergeOf (p :: a) b else (p.1, max p.2 q.2) :: mergeOf a b
termination_by a b => a.length + b.length

theorem merge_nil (b : List (Int × Int)) : mergeOf [] b = b := by simp [mergeOf]
theorem merge_end (a : List (Int × Int)) : mergeOf a [] = a := by cases a <;> simp [mergeOf]
theorem merge_lt {p q : Int × Int} (a b : List (Int × Int)) (h : p.1 < q.1) : mergeOf (p :: a) (q :: b) = p :: mergeOf a (q :: b) := by rw [mergeOf, if_pos h]
theorem merge_gt {p q : Int × Int} (a b : List (Int × Int)) (h : q.1 < p.1) : mergeOf (p :: a) (q :: b) = q :: mergeOf (p :: a) b := by rw [mergeOf, if_neg (by omega), if_pos h]
theorem merge_eq {p q : Int × Int} (a b : List (Int × Int)) (h : p.1 = q.1) : mergeOf (p :: a) (q :: b) = (p.1, max p.2 q.2) :: mergeOf a b := by rw [mergeOf, if_neg (by omega), if_neg (by omega)]

theorem merge_may : ∀ (a b : List (Int × Int)) {x : Int}, mayFrom x a = true → mayFrom x b = true → mayFrom x (mergeOf a b) = true
  | [], b, x, _, hb => by rw [merge_nil]; exact hb
  | p :: a, [], x, ha, _ => by rw [merge_end]; exact ha
  | p :: a, q :: b, x, ha, hb => by
    have ha0 := ha
    have hb0 := hb
    rw [may_cons] at ha hb
    rcases Int.lt_trichotomy p.1 q.1 with h | h | h
    · rw [merge_lt a b h, may_cons]
      exact ⟨ha.1, ha.2.1, merge_may a (q :: b) ha.2.2 (by rw [may_cons]; exact ⟨h, hb.2⟩)⟩
    · rw [merge_eq a b h, may_cons]
      exact ⟨ha.1, by simp only; omega, merge_may a b ha.2.2 (by rw [h]; exact hb.2.2)⟩
    · rw [merge_gt a b h, may_cons]
      exact ⟨hb.1, hb.2.1, merge_may (p :: a) b (by rw [may_cons]; exact ⟨h, ha.2⟩) hb.2.2⟩
termination_by a b => a.length + b.length

theorem merge_next : ∀ (a b : List (Int × Int)) {x : Int} (c : Int), mayFrom x a = true → mayFrom x b = true → nextOf (mergeOf a b) c = max (nextOf a c) (nextOf b c)
  | [], b, x, c, _, hb => by have := next_nonneg c hb; rw [merge_nil]; simp only [nextOf]; omega
  | p :: a, [], x, c, ha, _ => by have := next_nonneg c ha; rw [merge_end]; simp only [nextOf] at this ⊢; omega
  | p :: a, q :: b, x, c, ha, hb => by
    rw [may_cons] at ha hb
    rcases Int.lt_trichotomy p.1 q.1 with h | h | h
    · have hb' : mayFrom p.1 (q :: b) = true := by rw [may_cons]; exact ⟨h, hb.2⟩
      rw [merge_lt a b h]
      have ih := merge_next a (q :: b) c ha.2.2 hb'
      by_cases hc : p.1 = c
      · have := next_above hb' (c := c) (by omega)
        rw [nextOf, if_pos hc, nextOf, if_pos hc, this]; omega
      · rw [nextOf, if_neg hc, nextOf, if_neg hc, ih]
    · rw [merge_eq a b h]
      have ih := merge_next a b (x := p.1) c ha.2.2 (by rw [h]; exact hb.2.2)
      by_cases hc : p.1 = c
      · rw [nextOf, if_pos hc, nextOf, if_pos hc, nextOf, if_pos (by omega)]
      · rw [nextOf, if_neg hc, nextOf, if_neg hc, nextOf, if_neg (by omega), ih]
    · have ha' : mayFrom q.1 (p :: a) = true := by rw [may_cons]; exact ⟨h, ha.2⟩
      rw [merge_gt a b h]
      have ih := merge_next (p :: a) b c ha' hb.2.2
      by_cases hc : q.1 = c
      · have := next_above ha' (c := c) (by omega)
        rw [this]
        rw [nextOf, if_pos hc, nextOf, if_pos hc]; omega
      · rw [nextOf, if_neg hc, ih]
        conv => rhs; rw [nextOf.eq_2 c q b, if_neg hc]
termination_by a b => a.length + b.length

def wfC (l : List (Int × Int)) : Prop := ∀ p ∈ l, 0 ≤ p.1 ∧ p.1 ≤ 4294967295 ∧ 0 ≤ p.2 ∧ p.2 ≤ 4294967295

end Go.Proofs.Ytdpmhhfpjpdfiaa
