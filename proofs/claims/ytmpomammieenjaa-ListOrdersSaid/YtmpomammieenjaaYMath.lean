/-
  Entries in a tree of chunks, in plain mathematics: no memory; no claim stands here.
-/
import Derived.Test.YtmpomammieenjaaXPl1
import Derived.Laws.Entries
namespace Go.Proofs.Ytmpomammieenjaa
set_option linter.unusedVariables false

def keyV (c k : Int) : Int := bits Go.BinOp.or Go.IntKind.u64 (Go.IntKind.u64.wrap (Go.IntKind.u64.wrap c * 4294967296)) (Go.IntKind.u64.wrap k)
def keyE (x : En) : Int := keyV x.c x.k

inductive Tr
  | leaf (l : List En)
  | node (a b : Tr)
def ents : Tr → List En
  | .leaf l => l
  | .node a b => ents a ++ ents b
def htT : Tr → Nat
  | .leaf _ => 0
  | .node a b => max (htT a) (htT b) + 1
def okR : Tr → Prop
  | .leaf l => l ≠ []
  | .node a b => okR a ∧ okR b
def cnt (t : Tr) : Nat := (ents t).length
def shw (t : Tr) : Nat := (shownE (ents t)).length
def loL : List En → Int
  | [] => 0
  | x :: l => l.foldl (fun m y => min m (keyE y)) (keyE x)
def hiL : List En → Int
  | [] => 0
  | x :: l => l.foldl (fun m y => max m (keyE y)) (keyE x)
def loT : Tr → Int
  | .leaf l => loL l
  | .node a b => min (loT a) (loT b)
def hiT : Tr → Int
  | .leaf l => hiL l
  | .node a b => max (hiT a) (hiT b)

theorem ok_pos : ∀ {t : Tr}, okR t → 0 < cnt t
  | .leaf l, h => List.length_pos_iff.2 h
  | .node a b, h => by
    have := ok_pos h.1
    simp only [cnt, ents, List.length_append] at this ⊢
    omega
theorem cnt_node (a b : Tr) : cnt (.node a b) = cnt a + cnt b := by simp [cnt, ents]
theorem ht_lt : ∀ {t : Tr}, okR t → htT t < cnt t
  | .leaf l, h => ok_pos h
  | .node a b, h => by
    have h1 := ht_lt h.1
    have h2 := ht_lt h.2
    rw [cnt_node]
    show max (htT a) (htT b) + 1 < _
    omega
theorem shownG_len : ∀ (l : List En) (i j : Nat), (shownG i l).length = (shownG j l).length
  | [], i, j => rfl
  | x :: l, i, j => by
    have := shownG_len l (i + 1) (j + 1)
    rw [shownG, shownG]
    split <;> simp [this]
theorem shownG_append : ∀ (l m : List En) (i : Nat), shownG i (l ++ m) = shownG i l ++ shownG (i + l.length) m
  | [], m, i => by simp [shownG]
  | x :: l, m, i => by
    rw [List.cons_append, shownG, shownG, shownG_append l m (i + 1), show i + 1 + l.length = i + (x :: l).length by simp; omega]
    split <;> simp
theorem shownG_map : ∀ (l : List En) (i j : Nat), shownG (i + j) l = (shownG i l).map (· + j)
  | [], i, j => by simp [shownG]
  | x :: l, i, j => by
    rw [shownG, shownG, show i + j + 1 = i + 1 + j by omega, shownG_map l (i + 1) j]
    split <;> simp
theorem shw_node (a b : Tr) : shw (.node a b) = shw a + shw b := by
  unfold shw shownE
  rw [ents, shownG_append, List.length_append, shownG_len (ents b) (0 + (ents a).length) 0]
theorem shw_le (t : Tr) : shw t ≤ cnt t := shown_len _ _
theorem shown_node (a b : Tr) (k : Nat) : (shownE (ents (.node a b)))[k]? = if k < shw a then (shownE (ents a))[k]? else ((shownE (ents b))[k - shw a]?).map (fun q => cnt a + q) := by
  have h0 : shownG (0 + (ents a).length) (ents b) = (shownG 0 (ents b)).map (· + (ents a).length) := shownG_map _ _ _
  unfold shownE shw cnt
  rw [ents, shownG_append, h0, List.getElem?_append, shownE]
  split
  · rfl
  · rw [List.getElem?_map]
    congr 1
    funext q
    omega
theorem find_append : ∀ (l m : List En) (c k : Int), findE (l ++ m) c k = match findE l c k with
    | some i => some i
    | none => (findE m c k).map (fun q => l.length + q)
  | [], m, c, k => by
    simp [findE]
  | x :: l, m, c, k => by
    rw [List.cons_append, findE, findE, find_append l m c k]
    cases sameE x c k with
    | true => rfl
    | false =>
      simp only [Bool.false_eq_true, if_false]
      cases findE l c k with
      | some i => rfl
      | none =>
        cases findE m c k with
        | none => rfl
        | some j => simp; omega

/-! keys -/
theorem key_same {x : En} {c k : Int} (h : sameE x c k = true) : keyE x = keyV c k := by
  unfold sameE at h
  rw [decide_eq_true_eq] at h
  unfold keyE
  rw [h.1, h.2]
theorem min_fold : ∀ (l : List En) (m : Int), l.foldl (fun m y => min m (keyE y)) m ≤ m ∧ ∀ x ∈ l, l.foldl (fun m y => min m (keyE y)) m ≤ keyE x
  | [], m => ⟨Int.le_refl _, fun x h => by cases h⟩
  | y :: l, m => by
    obtain ⟨h1, h2⟩ := min_fold l (min m (keyE y))
    rw [List.foldl_cons]
    refine ⟨by omega, fun x hx => ?_⟩
    rcases List.mem_cons.1 hx with rfl | hx
    · omega
    · exact h2 x hx
theorem max_fold : ∀ (l : List En) (m : Int), m ≤ l.foldl (fun m y => max m (keyE y)) m ∧ ∀ x ∈ l, keyE x ≤ l.foldl (fun m y => max m (keyE y)) m
  | [], m => ⟨Int.le_refl _, fun x h => by cases h⟩
  | y :: l, m => by
    obtain ⟨h1, h2⟩ := max_fold l (max m (keyE y))
    rw [List.foldl_cons]
    refine ⟨by omega, fun x hx => ?_⟩
    rcases List.mem_cons.1 hx with rfl | hx
    · omega
    · exact h2 x hx
theorem loL_le {l : List En} {x : En} (hx : x ∈ l) : loL l ≤ keyE x := by
  cases l with
  | nil => cases hx
  | cons y l =>
    obtain ⟨h1, h2⟩ := min_fold l (keyE y)
    rcases List.mem_cons.1 hx with rfl | hx
    · exact h1
    · exact h2 x hx
theorem hiL_le {l : List En} {x : En} (hx : x ∈ l) : keyE x ≤ hiL l := by
  cases l with
  | nil => cases hx
  | cons y l =>
    obtain ⟨h1, h2⟩ := max_fold l (keyE y)
    rcases List.mem_cons.1 hx with rfl | hx
    · exact h1
    · exact h2 x hx
theorem lo_le : ∀ {t : Tr} {x : En}, x ∈ ents t → loT t ≤ keyE x
  | .leaf l, x, h => loL_le h
  | .node a b, x, h => by
    have hm : loT (.node a b) = min (loT a) (loT b) := rfl
    rcases List.mem_append.1 h with h | h
    · have := lo_le h; omega
    · have := lo_le h; omega
theorem hi_le : ∀ {t : Tr} {x : En}, x ∈ ents t → keyE x ≤ hiT t
  | .leaf l, x, h => hiL_le h
  | .node a b, x, h => by
    have hm : hiT (.node a b) = max (hiT a) (hiT b) := rfl
    rcases List.mem_append.1 h with h | h
    · have := hi_le h; omega
    · have := hi_le h; omega
theorem find_out {t : Tr} {c k : Int} (h : keyV c k < loT t ∨ hiT t < keyV c k) : findE (ents t) c k = none := by
  rw [find_none, has_false]
  intro x hx
  cases hs : sameE x c k with
  | false => rfl
  | true =>
    have e := key_same hs
    have h1 := lo_le hx
    have h2 := hi_le hx
    omega
theorem loL_step {l : List En} {i : Nat} {x : En} (hx : l[i]? = some x) (hi0 : 0 < i) : loL (l.take (i + 1)) = min (loL (l.take i)) (keyE x) := by
  rw [List.take_add_one, hx]
  cases l with
  | nil => simp at hx
  | cons y l =>
    obtain ⟨j, rfl⟩ : ∃ j, i = j + 1 := ⟨i - 1, by omega⟩
    simp [loL, List.foldl_append]
theorem hiL_step {l : List En} {i : Nat} {x : En} (hx : l[i]? = some x) (hi0 : 0 < i) : hiL (l.take (i + 1)) = max (hiL (l.take i)) (keyE x) := by
  rw [List.take_add_one, hx]
  cases l with
  | nil => simp at hx
  | cons y l =>
    obtain ⟨j, rfl⟩ : ∃ j, i = j + 1 := ⟨i - 1, by omega⟩
    simp [hiL, List.foldl_append]
theorem loL_first {l : List En} {x : En} (hx : l[0]? = some x) : loL (l.take 1) = keyE x ∧ hiL (l.take 1) = keyE x := by
  cases l with
  | nil => simp at hx
  | cons y l =>
    obtain rfl : y = x := by simpa using hx
    exact ⟨rfl, rfl⟩
theorem shown_take {l : List En} {i : Nat} {x : En} (hx : l[i]? = some x) : (shownE (l.take (i + 1))).length = (shownE (l.take i)).length + (if x.g then 0 else 1) := by
  rw [List.take_add_one, hx]
  unfold shownE
  rw [shownG_append, List.length_append]
  congr 1
  show (shownG _ [x]).length = _
  rw [shownG]
  split <;> simp [shownG]

/-! what makes parts -/
def partTr (l : List En) : Tr :=
  if h : l.length ≤ 16 then .leaf l else .node (partTr (l.take (l.length / 2))) (partTr (l.drop (l.length / 2)))
termination_by l.length
decreasing_by
  · rw [List.length_take]; omega
  · rw [List.length_drop]; omega
theorem part_ents : ∀ (n : Nat) (l : List En), l.length ≤ n → ents (partTr l) = l
  | 0, l, h => by rw [partTr, dif_pos (by omega)]; rfl
  | n + 1, l, h => by
    rw [partTr]
    split
    · rfl
    · rw [ents, part_ents n (l.take (l.length / 2)) (by rw [List.length_take]; omega), part_ents n (l.drop (l.length / 2)) (by rw [List.length_drop]; omega), List.take_append_drop]
theorem ents_part (l : List En) : ents (partTr l) = l := part_ents _ l (Nat.le_refl _)
theorem part_ok' : ∀ (n : Nat) (l : List En), l.length ≤ n → l ≠ [] → okR (partTr l)
  | 0, l, h, h0 => absurd (List.length_eq_zero_iff.1 (by omega)) h0
  | n + 1, l, h, h0 => by
    rw [partTr]
    split
    · exact h0
    · refine ⟨part_ok' n _ (by rw [List.length_take]; omega) ?_, part_ok' n _ (by rw [List.length_drop]; omega) ?_⟩
      · intro e
        have := congrArg List.length e
        rw [List.length_take, List.length_nil] at this
        omega
      · intro e
        have := congrArg List.length e
        rw [List.length_drop, List.length_nil] at this
        omega
theorem part_ok {l : List En} (h : l ≠ []) : okR (partTr l) := part_ok' _ l (Nat.le_refl _) h
theorem part_small {l : List En} (h : l.length ≤ 16) : partTr l = .leaf l := by rw [partTr, dif_pos h]
theorem part_big {l : List En} (h : 16 < l.length) : partTr l = .node (partTr (l.take (l.length / 2))) (partTr (l.drop (l.length / 2))) := by rw [partTr, dif_neg (by omega)]

def leanRt (a b : Tr) : Tr := match a with
  | .leaf _ => .node a b
  | .node x y => if htT y ≤ htT x then .node x (.node y b) else match y with
    | .leaf _ => .node a b
    | .node y1 y2 => .node (.node x y1) (.node y2 b)
def leanLt (a b : Tr) : Tr := match b with
  | .leaf _ => .node a b
  | .node x y => if htT x ≤ htT y then .node (.node a x) y else match x with
    | .leaf _ => .node a b
    | .node x1 x2 => .node (.node a x1) (.node x2 y)
def balTr (a b : Tr) : Tr := if htT b + 1 < htT a then leanRt a b else if htT a + 1 < htT b then leanLt a b else .node a b
theorem leanRt_ents (a b : Tr) : ents (leanRt a b) = ents a ++ ents b := by
  unfold leanRt
  split
  · rfl
  · split
    · simp [ents]
    · split
      · rfl
      · simp [ents]
theorem leanLt_ents (a b : Tr) : ents (leanLt a b) = ents a ++ ents b := by
  unfold leanLt
  split
  · rfl
  · split
    · simp [ents]
    · split
      · rfl
      · simp [ents]
theorem bal_ents (a b : Tr) : ents (balTr a b) = ents a ++ ents b := by
  unfold balTr
  split
  · exact leanRt_ents a b
  · split
    · exact leanLt_ents a b
    · rfl
theorem leanRt_ok {a b : Tr} (ha : okR a) (hb : okR b) : okR (leanRt a b) := by
  unfold leanRt
  split
  · exact ⟨ha, hb⟩
  · split
    · exact ⟨ha.1, ha.2, hb⟩
    · split
      · exact ⟨ha, hb⟩
      · exact ⟨⟨ha.1, ha.2.1⟩, ha.2.2, hb⟩
theorem leanLt_ok {a b : Tr} (ha : okR a) (hb : okR b) : okR (leanLt a b) := by
  unfold leanLt
  split
  · exact ⟨ha, hb⟩
  · split
    · exact ⟨⟨ha, hb.1⟩, hb.2⟩
    · split
      · exact ⟨ha, hb⟩
      · exact ⟨⟨ha, hb.1.1⟩, hb.1.2, hb.2⟩
theorem bal_ok {a b : Tr} (ha : okR a) (hb : okR b) : okR (balTr a b) := by
  unfold balTr
  split
  · exact leanRt_ok ha hb
  · split
    · exact leanLt_ok ha hb
    · exact ⟨ha, hb⟩

def putTr : Tr → Nat → En → Tr
  | .leaf l, p, x => partTr (putE l p x)
  | .node a b, p, x => if p ≤ cnt a then balTr (putTr a p x) b else balTr a (putTr b (p - cnt a) x)
theorem putTr_ents : ∀ (t : Tr) (p : Nat) (x : En), p ≤ cnt t → ents (putTr t p x) = putE (ents t) p x
  | .leaf l, p, x, h => ents_part _
  | .node a b, p, x, h => by
    rw [cnt_node] at h
    rw [putTr]
    have e : cnt a = (ents a).length := rfl
    split
    · rename_i h1
      rw [bal_ents, putTr_ents a p x h1]
      unfold putE
      rw [ents, List.take_append_of_le_length (by omega), List.drop_append_of_le_length (by omega)]
      simp
    · rename_i h1
      rw [bal_ents, putTr_ents b _ x (by omega)]
      unfold putE
      rw [ents, List.take_append, List.drop_append, List.take_of_length_le (l := ents a) (by omega), List.drop_eq_nil_of_le (as := ents a) (by omega), e]
      simp
theorem putE_ne (l : List En) (p : Nat) (x : En) : putE l p x ≠ [] := by unfold putE; simp
theorem putTr_ok : ∀ (t : Tr) (p : Nat) (x : En), t = .leaf [] ∨ okR t → okR (putTr t p x)
  | .leaf l, p, x, h => part_ok (putE_ne _ _ _)
  | .node a b, p, x, h => by
    rcases h with h | h
    · cases h
    · rw [putTr]
      split
      · exact bal_ok (putTr_ok a p x (.inr h.1)) h.2
      · exact bal_ok h.1 (putTr_ok b _ x (.inr h.2))
theorem putTr_cnt (t : Tr) (p : Nat) (x : En) (h : p ≤ cnt t) : cnt (putTr t p x) = cnt t + 1 := by
  unfold cnt
  rw [putTr_ents t p x h, put_len h]

def goneL (l : List En) (q : Nat) : List En := match l[q]? with
  | some x => l.set q { x with g := true }
  | none => l
def hideTr : Tr → Nat → Tr
  | .leaf l, q => .leaf (goneL l q)
  | .node a b, q => if q < cnt a then .node (hideTr a q) b else .node a (hideTr b (q - cnt a))
theorem gone_len (l : List En) (q : Nat) : (goneL l q).length = l.length := by
  unfold goneL
  split <;> simp
theorem gone_append (l m : List En) (q : Nat) : goneL (l ++ m) q = if q < l.length then goneL l q ++ m else l ++ goneL m (q - l.length) := by
  by_cases h : q < l.length
  · rw [if_pos h]
    unfold goneL
    rw [List.getElem?_append_left h]
    cases hx : l[q]? with
    | none => rfl
    | some x =>
      show (l ++ m).set q _ = l.set q _ ++ m
      rw [List.set_append, if_pos h]
  · rw [if_neg h]
    unfold goneL
    rw [List.getElem?_append_right (by omega)]
    cases hx : m[q - l.length]? with
    | none => rfl
    | some x =>
      show (l ++ m).set q _ = l ++ m.set _ _
      rw [List.set_append, if_neg h]
theorem hideTr_ents : ∀ (t : Tr) (q : Nat), ents (hideTr t q) = goneL (ents t) q
  | .leaf l, q => rfl
  | .node a b, q => by
    rw [hideTr]
    have e : cnt a = (ents a).length := rfl
    split
    · rename_i h1
      rw [ents, ents, hideTr_ents a q, gone_append, if_pos (by omega)]
    · rename_i h1
      rw [ents, ents, hideTr_ents b _, gone_append, if_neg (by omega), e]
theorem hideTr_cnt (t : Tr) (q : Nat) : cnt (hideTr t q) = cnt t := by unfold cnt; rw [hideTr_ents, gone_len]
theorem hideTr_ok : ∀ (t : Tr) (q : Nat), okR t → okR (hideTr t q)
  | .leaf l, q, h => by
    intro e
    have := congrArg List.length e
    rw [gone_len] at this
    simp at this
    exact h this
  | .node a b, q, h => by
    rw [hideTr]
    split
    · exact ⟨hideTr_ok a q h.1, h.2⟩
    · exact ⟨h.1, hideTr_ok b _ h.2⟩
theorem gone_set {l : List En} {q : Nat} {x : En} (hx : l[q]? = some x) : goneL l q = l.set q { x with g := true } := by
  unfold goneL
  rw [hx]

end Go.Proofs.Ytmpomammieenjaa
