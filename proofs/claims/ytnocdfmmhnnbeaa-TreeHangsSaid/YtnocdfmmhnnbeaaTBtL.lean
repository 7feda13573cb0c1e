/-
  What TreeBetween and TreeHangs ask of the order, in plain mathematics: no memory; no claim stands here.
-/
import Derived.Test.YtnocdfmmhnnbeaaTCome
namespace Go.Proofs.Ytnocdfmmhnnbeaa
set_option linter.unusedVariables false

/-- any order of known items is the walk's -/
theorem ord_walk {l : List It} (h : knownI l = true) {o : List I2} (ho : IsOrd l o) : o = walkS l (hangsP l) l.length ⟨(0, 0), true⟩ := ord_unique ho (walk_ord h _ (Nat.le_refl _))
/-- what is put between two that stand side by side stands there: of any orders of both -/
theorem between_is {m : List It} {o o' : List I2} {x : It} {k : Nat} (hx : knownI (m ++ [x]) = true) (ho : IsOrd m o) (ho' : IsOrd (m ++ [x]) o') (hk : k ≤ o.length)
    (hlf : ∀ j a, k = j + 1 → o[j]? = some a → ilf x = a) (hlf0 : k = 0 → x.lc = 0) (hrt : ∀ b, o[k]? = some b → irt x = b) (hrt0 : o.length = k → x.rc = 0) : o' = o.take k ++ iid x :: o.drop k := by
  rw [known_snoc, Bool.and_eq_true] at hx
  exact ord_unique ho' (ord_between hx.1 ho hx.2 hk hlf hlf0 hrt hrt0)
/-- the order of a beginning: that of all, the others left out; so many as there are -/
theorem part_is {m few : List It} {o o' : List I2} (hm : knownI m = true) (hf : knownI few = true) (hs : ∀ x ∈ few, x ∈ m) (ho : IsOrd m o) (ho' : IsOrd few o') : o' = o.filter (hasI few) ∧ (o.filter (hasI few)).length = few.length := by
  have h1 := ord_sub hf hm hs ho
  exact ⟨ord_unique ho' h1, ord_len hf h1⟩
/-- in whatever order they came -/
theorem again_is {m other : List It} {o o' : List I2} (hm : knownI m = true) (hf : knownI other = true) (hs : ∀ x, x ∈ other ↔ x ∈ m) (ho : IsOrd m o) (ho' : IsOrd other o') : o' = o := ord_unique ho' (ord_same hf hm hs ho)
theorem Parts.full {m other : List It} (h : Parts m other []) : ∀ x, x ∈ other ↔ x ∈ m := fun x => ⟨h.ho x, fun hx => (h.cov x hx).resolve_right (by simp)⟩
/-- a beginning of known ones -/
theorem few_known {other : List It} (h : knownI other = true) (n : Nat) : knownI (other.take n) = true := known_take h n
/-- how often an Id stands among items that are known: once, or not -/
theorem once_or_not {few : List It} (h : knownI few = true) (a : I2) : (few.filter fun x => decide (iid x = a)).length = if hasI few a then 1 else 0 := by
  refine snoc_ind (P := fun few => knownI few = true → (few.filter fun x => decide (iid x = a)).length = if hasI few a then 1 else 0) (fun _ => rfl) (fun l x ih h => ?_) few h
  rw [known_snoc, Bool.and_eq_true] at h
  have h1 := ih h.1
  obtain ⟨_, hno, _, _⟩ := knownX_spec h.2
  rw [List.filter_append, List.length_append, h1, has_snoc]
  by_cases e : iid x = a
  · subst e
    rw [hno]
    simp
  · have : decide (iid x = a) = false := decide_eq_false e
    cases hasI l a <;> simp [this]

end Go.Proofs.Ytnocdfmmhnnbeaa
