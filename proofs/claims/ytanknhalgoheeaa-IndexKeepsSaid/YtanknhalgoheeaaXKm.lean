/-
  Plain laws of entries turned round, and of one that is Gone; no claim stands here.
-/
import Derived.Test.YtanknhalgoheeaaXPl1
namespace Go.Proofs.Ytanknhalgoheeaa
set_option linter.unusedVariables false

theorem has_reverse (l : List En) (c k : Int) : hasE l.reverse c k = hasE l c k := has_perm (fun x => List.mem_reverse)
theorem apart_reverse : ∀ (l : List En), apart l = true → apart l.reverse = true
  | [], _ => rfl
  | x :: l, h => by
    rw [apart, Bool.and_eq_true, Bool.not_eq_true'] at h
    rw [List.reverse_cons, apart_append, apart_reverse l h.2, has_reverse, h.1]
    rfl
theorem sameE_self (x : En) : sameE x x.c x.k = true := by unfold sameE; simp
/-- of those no two of one Id: where one stands -/
theorem find_at : ∀ {l : List En} {q : Nat} {x : En}, apart l = true → l[q]? = some x → findE l x.c x.k = some q
  | [], q, x, _, h => by simp at h
  | y :: l, 0, x, _, h => by
    obtain rfl : y = x := by simpa using h
    rw [findE, sameE_self, if_pos rfl]
  | y :: l, q + 1, x, ha, h => by
    rw [apart, Bool.and_eq_true, Bool.not_eq_true'] at ha
    have hx : l[q]? = some x := by simpa using h
    have hn := has_false.1 ha.1 x (List.mem_of_getElem? hx)
    have hs : sameE y x.c x.k = false := by rw [same_symm] at hn; exact hn
    rw [findE, hs, if_neg (by simp), find_at ha.2 hx]
    rfl
theorem reverse_at {l : List En} {q : Nat} {x : En} (h : l[q]? = some x) : l.reverse[l.length - 1 - q]? = some x := by
  have hq := (List.getElem?_eq_some_iff.1 h).1
  rw [List.getElem?_reverse (by omega), show l.length - 1 - (l.length - 1 - q) = q by omega]
  exact h
theorem put_front (l : List En) (x : En) : putE l 0 x = x :: l := by simp [putE]
theorem take_rev {l : List En} {j : Nat} {x : En} (h : l[j]? = some x) : (l.take (j + 1)).reverse = x :: (l.take j).reverse := by
  rw [List.take_add_one, h]
  simp
theorem take_has {l : List En} {j : Nat} {x : En} (ha : apart l = true) (h : l[j]? = some x) : hasE (l.take j).reverse x.c x.k = false := by
  rw [has_reverse, has_false]
  intro y hy
  obtain ⟨i, hi⟩ := List.getElem?_of_mem hy
  have hij : i < j := by
    have := (List.getElem?_eq_some_iff.1 hi).1
    rw [List.length_take] at this
    omega
  have hi2 : l[i]? = some y := by rw [List.getElem?_take, if_pos hij] at hi; exact hi
  cases hs : sameE y x.c x.k with
  | false => rfl
  | true =>
    have h1 := find_at ha hi2
    have h2 := find_at ha h
    unfold sameE at hs
    rw [decide_eq_true_eq] at hs
    rw [hs.1, hs.2, h2] at h1
    injection h1 with h1
    omega
theorem apart_take {l : List En} (ha : apart l = true) (j : Nat) : apart (l.take j) = true := by
  rw [← List.take_append_drop j l] at ha
  exact ((apart_app _ _).1 ha).1
theorem find_hide : ∀ (l : List En) (a b c k : Int), findE (hideE l a b) c k = findE l c k
  | [], a, b, c, k => rfl
  | x :: l, a, b, c, k => by
    show findE ((if sameE x a b then { x with g := true } else x) :: hideE l a b) c k = _
    rw [findE, findE, find_hide l a b c k]
    have e : sameE (if sameE x a b then { x with g := true } else x) c k = sameE x c k := by split <;> rfl
    rw [e]
theorem hide_at {l : List En} {q : Nat} {x : En} (ha : apart l = true) (h : l[q]? = some x) : (hideE l x.c x.k)[q]? = some { x with g := true } := by
  rw [hide_set ha (find_at ha h) h, List.getElem?_set_self (List.getElem?_eq_some_iff.1 h).1]
theorem shownG_mem : ∀ (l : List En) (i p : Nat), p ∈ shownG i l → ∃ y, l[p - i]? = some y ∧ y.g = false ∧ i ≤ p
  | [], i, p, h => by simp [shownG] at h
  | x :: l, i, p, h => by
    rw [shownG] at h
    cases hg : x.g with
    | true =>
      rw [hg, if_pos rfl] at h
      obtain ⟨y, h1, h2, h3⟩ := shownG_mem l (i + 1) p h
      refine ⟨y, ?_, h2, by omega⟩
      rw [show p - i = (p - (i + 1)) + 1 by omega]
      simpa using h1
    | false =>
      rw [hg, if_neg (by simp)] at h
      rcases List.mem_cons.1 h with rfl | h
      · exact ⟨x, by simp, hg, Nat.le_refl _⟩
      · obtain ⟨y, h1, h2, h3⟩ := shownG_mem l (i + 1) p h
        refine ⟨y, ?_, h2, by omega⟩
        rw [show p - i = (p - (i + 1)) + 1 by omega]
        simpa using h1
/-- what is Gone isn't shown -/
theorem shown_ne {l : List En} {q p : Nat} {x : En} (h : l[q]? = some x) (hg : x.g = true) (hp : p ∈ shownE l) : p ≠ q := by
  rintro rfl
  obtain ⟨y, h1, h2, _⟩ := shownG_mem l 0 p hp
  rw [Nat.sub_zero, h] at h1
  injection h1 with h1
  subst h1
  rw [hg] at h2
  cases h2

end Go.Proofs.Ytanknhalgoheeaa
