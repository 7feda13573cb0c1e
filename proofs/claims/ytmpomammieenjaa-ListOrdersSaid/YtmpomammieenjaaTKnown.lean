/-
  Known items, on what they hang, their paths and their order, in plain mathematics: no memory; no claim stands here.
-/
import Derived.Test.YtmpomammieenjaaTMath
namespace Go.Proofs.Ytmpomammieenjaa
set_option linter.unusedVariables false

structure Hg where
  on : I2
  right : Bool
def fnd : List It → I2 → Option Nat
  | [], _ => none
  | x :: l, a => if iid x = a then some 0 else (fnd l a).map (· + 1)
def hasI (l : List It) (a : I2) : Bool := l.any fun x => decide (iid x = a)
theorem has_iffI {l : List It} {a : I2} : hasI l a = true ↔ ∃ x ∈ l, iid x = a := by
  unfold hasI
  rw [List.any_eq_true]
  simp
theorem fnd_none {l : List It} {a : I2} : fnd l a = none ↔ hasI l a = false := by
  induction l with
  | nil => simp [fnd, hasI]
  | cons x l ih =>
    rw [fnd]
    unfold hasI at ih ⊢
    rw [List.any_cons]
    by_cases h : iid x = a
    · simp [h]
    · rw [if_neg h]
      simp only [h, decide_false, Bool.false_or, Option.map_eq_none_iff]
      exact ih
theorem fnd_some {l : List It} {a : I2} {i : Nat} (h : fnd l a = some i) : ∃ x, l[i]? = some x ∧ iid x = a := by
  induction l generalizing i with
  | nil => cases h
  | cons x l ih =>
    rw [fnd] at h
    by_cases hx : iid x = a
    · rw [if_pos hx] at h
      injection h with h
      subst h
      exact ⟨x, rfl, hx⟩
    · rw [if_neg hx] at h
      cases hf : fnd l a with
      | none => rw [hf] at h; cases h
      | some j =>
        rw [hf] at h
        simp only [Option.map_some, Option.some.injEq] at h
        subst h
        obtain ⟨y, h1, h2⟩ := ih hf
        exact ⟨y, by simpa using h1, h2⟩
theorem fnd_snoc (l : List It) (x : It) (a : I2) : fnd (l ++ [x]) a = match fnd l a with
    | some i => some i
    | none => if iid x = a then some l.length else none := by
  induction l with
  | nil => simp [fnd]
  | cons y l ih =>
    rw [List.cons_append, fnd, fnd, ih]
    by_cases h : iid y = a
    · rw [if_pos h, if_pos h]
    · rw [if_neg h, if_neg h]
      cases fnd l a with
      | some i => rfl
      | none =>
        simp only [Option.map_none]
        split <;> simp
def knownX (p : List It) (x : It) : Bool := decide (x.c ≠ 0) && !hasI p (iid x) && (decide (x.lc = 0) || hasI p (ilf x)) && (decide (x.rc = 0) || hasI p (irt x))
def knownG (p : List It) : List It → Bool
  | [] => true
  | x :: r => knownX p x && knownG (p ++ [x]) r
def knownI (l : List It) : Bool := knownG [] l
theorem knownG_snoc : ∀ (l p : List It) (x : It), knownG p (l ++ [x]) = (knownG p l && knownX (p ++ l) x)
  | [], p, x => by simp [knownG]
  | y :: l, p, x => by
    rw [List.cons_append, knownG, knownG, knownG_snoc l (p ++ [y]) x, Bool.and_assoc]
    simp
theorem known_snoc (l : List It) (x : It) : knownI (l ++ [x]) = (knownI l && knownX l x) := by
  have := knownG_snoc l [] x
  simpa [knownI] using this
theorem known_app : ∀ (r m : List It), knownI (m ++ r) = true → knownI m = true
  | [], m, h => by simpa using h
  | y :: r, m, h => by
    have h2 : knownI ((m ++ [y]) ++ r) = true := by simpa using h
    have h3 := known_app r (m ++ [y]) h2
    rw [known_snoc, Bool.and_eq_true] at h3
    exact h3.1
theorem known_take {l : List It} (h : knownI l = true) (n : Nat) : knownI (l.take n) = true := known_app (l.drop n) (l.take n) (by rw [List.take_append_drop]; exact h)
theorem snoc_ind {α : Type} {P : List α → Prop} (h0 : P []) (h1 : ∀ l x, P l → P (l ++ [x])) (l : List α) : P l := by
  have h : ∀ n (l : List α), l.length = n → P l := by
    intro n
    induction n with
    | zero => intro l hl; rw [List.length_eq_zero_iff.1 hl]; exact h0
    | succ n ih =>
      intro l hl
      have hne : l ≠ [] := fun e => by rw [e] at hl; simp at hl
      rw [← List.dropLast_concat_getLast hne]
      exact h1 _ _ (ih _ (by rw [List.length_dropLast]; omega))
  exact h _ l rfl

/-! paths -/
def pOf (l : List It) (ps : List Pth) (a : I2) : Pth := match fnd l a with
  | none => []
  | some i => (ps[i]?).getD []
def blwP (l : List It) (ps : List Pth) (a b : I2) : Bool := decide (b.1 = 0) || ((pOf l ps a).dropLast.any fun s => decide (s.2 = b))
def plcP (l : List It) (ps : List Pth) (x : It) : Hg :=
  if x.rc ≠ 0 ∧ blwP l ps (irt x) (ilf x) = true then ⟨irt x, false⟩ else ⟨if x.lc = 0 then (0, 0) else ilf x, true⟩
def newP (l : List It) (ps : List Pth) (x : It) : Pth := pOf l ps (plcP l ps x).on ++ [((plcP l ps x).right, iid x)]
def pathsG (p : List It) (ps : List Pth) : List It → List Pth
  | [] => ps
  | x :: r => pathsG (p ++ [x]) (ps ++ [newP p ps x]) r
def paths (l : List It) : List Pth := pathsG [] [] l
def pth (l : List It) (a : I2) : Pth := pOf l (paths l) a
theorem pathsG_snoc : ∀ (l p : List It) (ps : List Pth) (x : It), pathsG p ps (l ++ [x]) = pathsG p ps l ++ [newP (p ++ l) (pathsG p ps l) x]
  | [], p, ps, x => by simp [pathsG]
  | y :: l, p, ps, x => by
    rw [List.cons_append, pathsG, pathsG, pathsG_snoc l]
    simp
theorem paths_snoc (l : List It) (x : It) : paths (l ++ [x]) = paths l ++ [newP l (paths l) x] := by
  have := pathsG_snoc l [] [] x
  simpa [paths] using this
theorem paths_len (l : List It) : (paths l).length = l.length := by
  refine snoc_ind (P := fun l => (paths l).length = l.length) rfl (fun l x ih => ?_) l
  rw [paths_snoc]
  simp [ih]
theorem pth_old {l : List It} {x : It} {a : I2} (h : hasI l a = true) : pth (l ++ [x]) a = pth l a := by
  unfold pth pOf
  rw [fnd_snoc, paths_snoc]
  cases hf : fnd l a with
  | none => rw [fnd_none.1 hf] at h; cases h
  | some i =>
    obtain ⟨y, hy, _⟩ := fnd_some hf
    have hi := (List.getElem?_eq_some_iff.1 hy).1
    simp only
    rw [List.getElem?_append_left (by rw [paths_len]; exact hi)]
theorem pth_new {l : List It} {x : It} (h : hasI l (iid x) = false) : pth (l ++ [x]) (iid x) = newP l (paths l) x := by
  unfold pth pOf
  rw [fnd_snoc, paths_snoc, fnd_none.2 h]
  simp only [if_pos]
  rw [List.getElem?_append_right (by rw [paths_len]; exact Nat.le_refl _), paths_len, Nat.sub_self]
  rfl
theorem pth_none {l : List It} {a : I2} (h : hasI l a = false) : pth l a = [] := by
  unfold pth pOf
  rw [fnd_none.2 h]
theorem has_snoc {l : List It} {x : It} {a : I2} : hasI (l ++ [x]) a = (hasI l a || decide (iid x = a)) := by
  unfold hasI
  rw [List.any_append]
  simp
def hgP (l : List It) (x : It) : Hg := plcP l (paths l) x
theorem newP_eq (l : List It) (x : It) : newP l (paths l) x = pth l (hgP l x).on ++ [((hgP l x).right, iid x)] := rfl
theorem knownX_spec {l : List It} {x : It} (h : knownX l x = true) : x.c ≠ 0 ∧ hasI l (iid x) = false ∧ (x.lc = 0 ∨ hasI l (ilf x) = true) ∧ (x.rc = 0 ∨ hasI l (irt x) = true) := by
  unfold knownX at h
  simpa [Bool.and_eq_true, and_assoc] using h
theorem known_client {l : List It} (h : knownI l = true) : ∀ x ∈ l, x.c ≠ 0 := by
  refine snoc_ind (P := fun l => knownI l = true → ∀ x ∈ l, x.c ≠ 0) (by simp) (fun l x ih h => ?_) l h
  rw [known_snoc, Bool.and_eq_true] at h
  intro y hy
  rcases List.mem_append.1 hy with hy | hy
  · exact ih h.1 y hy
  · rw [List.mem_singleton] at hy
    subst hy
    exact (knownX_spec h.2).1
theorem has_root {l : List It} (h : knownI l = true) (k : Int) : hasI l (0, k) = false := by
  cases hh : hasI l (0, k) with
  | false => rfl
  | true =>
    obtain ⟨x, hx, e⟩ := has_iffI.1 hh
    have := known_client h x hx
    unfold iid at e
    injection e with e1 e2
    exact absurd e1 this
theorem hgP_on {l : List It} {x : It} (h : knownX l x = true) : (hgP l x).on = (0, 0) ∨ hasI l (hgP l x).on = true := by
  obtain ⟨_, _, h3, h4⟩ := knownX_spec h
  unfold hgP plcP
  split
  · rename_i hc
    rcases h4 with h4 | h4
    · exact absurd h4 hc.1
    · exact .inr h4
  · simp only
    split
    · exact .inl rfl
    · rename_i hl
      rcases h3 with h3 | h3
      · exact absurd h3 hl
      · exact .inr h3
theorem pth_ends {l : List It} (h : knownI l = true) : ∀ a, hasI l a = true → ∃ s p, pth l a = p ++ [(s, a)] ∧ (∀ t ∈ p, hasI l t.2 = true ∧ t.2 ≠ a) := by
  refine snoc_ind (P := fun l => knownI l = true → ∀ a, hasI l a = true → ∃ s p, pth l a = p ++ [(s, a)] ∧ (∀ t ∈ p, hasI l t.2 = true ∧ t.2 ≠ a)) (fun _ a h => by simp [hasI] at h) (fun l x ih h a ha => ?_) l h
  rw [known_snoc, Bool.and_eq_true] at h
  obtain ⟨_, hno, _, _⟩ := knownX_spec h.2
  cases hl : hasI l a with
  | true =>
    obtain ⟨s, p, h1, h2⟩ := ih h.1 a hl
    refine ⟨s, p, by rw [pth_old hl]; exact h1, fun t ht => ?_⟩
    rw [has_snoc, (h2 t ht).1]
    exact ⟨rfl, (h2 t ht).2⟩
  | false =>
    rw [has_snoc, hl, Bool.false_or, decide_eq_true_eq] at ha
    subst ha
    refine ⟨_, _, by rw [pth_new hno, newP_eq], fun t ht => ?_⟩
    have hin : hasI l t.2 = true := by
      rcases hgP_on h.2 with e | e
      · rw [e, pth_none (has_root h.1 0)] at ht
        cases ht
      · obtain ⟨s, p, h1, h2⟩ := ih h.1 _ e
        rw [h1] at ht
        rcases List.mem_append.1 ht with ht | ht
        · exact (h2 t ht).1
        · rw [List.mem_singleton] at ht
          subst ht
          exact e
    refine ⟨by rw [has_snoc, hin]; rfl, fun e => ?_⟩
    rw [e, hno] at hin
    cases hin
theorem pth_inj {l : List It} (h : knownI l = true) {a b : I2} (ha : hasI l a = true) (hb : hasI l b = true) (e : pth l a = pth l b) : a = b := by
  obtain ⟨s, p, h1, _⟩ := pth_ends h a ha
  obtain ⟨t, q, h2, _⟩ := pth_ends h b hb
  rw [h1, h2] at e
  have := congrArg (fun z => z.getLast?) e
  simp at this
  exact this.2

/-! a path hangs on the items alone -/
theorem pth_take {l : List It} {n : Nat} (h : knownI l = true) {a : I2} (ha : hasI (l.take n) a = true) : pth l a = pth (l.take n) a := by
  have hgen : ∀ (r m : List It), hasI m a = true → pth (m ++ r) a = pth m a := by
    intro r
    induction r with
    | nil => intro m _; rw [List.append_nil]
    | cons y r ih =>
      intro m hm
      have h2 : m ++ y :: r = (m ++ [y]) ++ r := by simp
      rw [h2, ih (m ++ [y]) (by rw [has_snoc, hm]; rfl), pth_old hm]
  have := hgen (l.drop n) (l.take n) ha
  rwa [List.take_append_drop] at this
theorem known_at {l : List It} (h : knownI l = true) {i : Nat} {x : It} (hx : l[i]? = some x) : knownX (l.take i) x = true ∧ pth l (iid x) = newP (l.take i) (paths (l.take i)) x := by
  have h1 := known_take h (i + 1)
  rw [List.take_add_one, hx] at h1
  have h1' : knownI (l.take i ++ [x]) = true := h1
  rw [known_snoc, Bool.and_eq_true] at h1'
  refine ⟨h1'.2, ?_⟩
  have hh : hasI (l.take (i + 1)) (iid x) = true := by rw [List.take_add_one, hx]; show hasI (l.take i ++ [x]) _ = true; rw [has_snoc]; simp
  rw [pth_take h hh, List.take_add_one, hx]
  exact pth_new (knownX_spec h1'.2).2.1
theorem pth_sub {l m : List It} (hl : knownI l = true) (hm : knownI m = true) (hs : ∀ x ∈ l, x ∈ m) : ∀ a, hasI l a = true → pth l a = pth m a := by
  refine snoc_ind (P := fun l => knownI l = true → (∀ x ∈ l, x ∈ m) → ∀ a, hasI l a = true → pth l a = pth m a) (fun _ _ a h => by simp [hasI] at h) (fun l x ih hl hs a ha => ?_) l hl hs
  rw [known_snoc, Bool.and_eq_true] at hl
  have ih' := ih hl.1 (fun y hy => hs y (List.mem_append_left _ hy))
  obtain ⟨_, hno, hlf, hrt⟩ := knownX_spec hl.2
  cases hla : hasI l a with
  | true => rw [pth_old hla]; exact ih' a hla
  | false =>
    rw [has_snoc, hla, Bool.false_or, decide_eq_true_eq] at ha
    subst ha
    obtain ⟨i, hi⟩ := List.getElem?_of_mem (hs x (List.mem_append_right _ (List.mem_singleton.2 rfl)))
    obtain ⟨hk, hp⟩ := known_at hm hi
    obtain ⟨_, _, hlf2, hrt2⟩ := knownX_spec hk
    rw [pth_new hno, hp, newP_eq, newP_eq]
    -- the paths of what it names are the same
    have hpa : ∀ b, (hasI l b = true) → (hasI (m.take i) b = true) → pth l b = pth (m.take i) b := fun b h1 h2 => by rw [ih' b h1, pth_take hm h2]
    have hroot : ∀ k, pth l (0, k) = pth (m.take i) (0, k) := fun k => by rw [pth_none (has_root hl.1 k), pth_none (has_root (known_take hm i) k)]
    have hbl : (x.rc ≠ 0 → blwP l (paths l) (irt x) (ilf x) = blwP (m.take i) (paths (m.take i)) (irt x) (ilf x)) := fun hr => by
      have h1 := hrt.resolve_left hr
      have h2 := hrt2.resolve_left hr
      have := hpa (irt x) h1 h2
      unfold pth at this
      unfold blwP
      rw [this]
    have hg : hgP l x = hgP (m.take i) x := by
      unfold hgP plcP
      by_cases hr : x.rc ≠ 0
      · rw [hbl hr]
      · rw [if_neg (show ¬ (x.rc ≠ 0 ∧ blwP l (paths l) (irt x) (ilf x) = true) from fun h => hr h.1), if_neg (show ¬ (x.rc ≠ 0 ∧ blwP (m.take i) (paths (m.take i)) (irt x) (ilf x) = true) from fun h => hr h.1)]
    rw [hg]
    congr 1
    rcases hgP_on hl.2 with e | e
    · rw [hg] at e; rw [e]; exact hroot 0
    · rcases hgP_on hk with e2 | e2
      · rw [e2]; exact hroot 0
      · rw [hg] at e; exact hpa _ e e2

/-! the order -/
def ltO (l : List It) (a b : I2) : Prop := ltP (pth l a) (pth l b) = true
structure IsOrd (l : List It) (o : List I2) : Prop where
  all : ∀ a, a ∈ o ↔ hasI l a = true
  rise : o.Pairwise (ltO l)
theorem ltO_irr (l : List It) (a : I2) : ¬ ltO l a a := fun h => by unfold ltO at h; rw [ltP_irrefl] at h; cases h
theorem ltO_asy (l : List It) (a b : I2) (h : ltO l a b) : ¬ ltO l b a := fun k => by
  unfold ltO at h k
  rw [ltP_asymm h] at k; cases k
theorem ord_unique {l : List It} {o o' : List I2} (h : IsOrd l o) (h' : IsOrd l o') : o = o' :=
  sorted_ext (ltO_irr l) (ltO_asy l) h.rise h'.rise (fun a => by rw [h.all, h'.all])
theorem has_sub {l m : List It} (hs : ∀ x ∈ l, x ∈ m) {a : I2} (h : hasI l a = true) : hasI m a = true := by
  obtain ⟨x, hx, e⟩ := has_iffI.1 h
  exact has_iffI.2 ⟨x, hs x hx, e⟩
theorem ord_sub {l m : List It} (hl : knownI l = true) (hm : knownI m = true) (hs : ∀ x ∈ l, x ∈ m) {o : List I2} (h : IsOrd m o) : IsOrd l (o.filter (hasI l)) := by
  constructor
  · intro a
    rw [List.mem_filter, h.all]
    exact ⟨fun k => k.2, fun k => ⟨has_sub hs k, k⟩⟩
  · refine List.Pairwise.imp_of_mem ?_ (h.rise.filter _)
    intro a b ha hb hab
    unfold ltO at hab ⊢
    rw [pth_sub hl hm hs a (List.mem_filter.1 ha).2, pth_sub hl hm hs b (List.mem_filter.1 hb).2]
    exact hab
theorem ord_same {l m : List It} (hl : knownI l = true) (hm : knownI m = true) (hs : ∀ x, x ∈ l ↔ x ∈ m) {o : List I2} (h : IsOrd m o) : IsOrd l o := by
  have h1 := ord_sub hl hm (fun x hx => (hs x).1 hx) h
  have h2 : o.filter (hasI l) = o := by
    rw [List.filter_eq_self]
    intro a ha
    exact has_sub (fun x hx => (hs x).2 hx) ((h.all a).1 ha)
  rwa [h2] at h1
theorem nodup_of_rise {l : List It} {o : List I2} (h : o.Pairwise (ltO l)) : o.Nodup := by
  refine h.imp ?_
  intro a b hab e
  subst e
  exact ltO_irr l a hab

end Go.Proofs.Ytmpomammieenjaa
