/-
  What the reference's walk takes next, in plain mathematics: no memory; no claim stands here.
-/
import Derived.Test.YtmpomammieenjaaTWalk
namespace Go.Proofs.Ytmpomammieenjaa
set_option linter.unusedVariables false

def cand (hs : List Hg) (g : Hg) (d : List Bool) (i : Nat) : Bool := match hs[i]? with
  | some h => decide (h.on = g.on ∧ h.right = g.right) && !(d[i]?.getD true)
  | none => false
def ltN (l : List It) (i b : Nat) : Bool := match l[i]?, l[b]? with
  | some x, some y => ltI (iid x) (iid y)
  | _, _ => false
def bstN (l : List It) (hs : List Hg) (g : Hg) (d : List Bool) : Nat → Option Nat
  | 0 => none
  | q + 1 => if cand hs g d q then (match bstN l hs g d q with
      | none => some q
      | some b => if ltN l q b then some q else some b) else bstN l hs g d q
theorem ltN_irr (l : List It) (i : Nat) : ltN l i i = false := by
  unfold ltN
  cases l[i]? with
  | none => rfl
  | some x =>
    show ltI (iid x) (iid x) = false
    cases h : ltI (iid x) (iid x) with
    | false => rfl
    | true => rw [ltI_asymm h] at h; cases h
theorem ltN_trans {l : List It} {i j k : Nat} (h : ltN l i j = true) (h2 : ltN l j k = true) : ltN l i k = true := by
  unfold ltN at *
  cases hi : l[i]? with
  | none => rw [hi] at h; cases h
  | some x =>
    cases hj : l[j]? with
    | none => rw [hi, hj] at h; cases h
    | some y =>
      cases hk : l[k]? with
      | none => rw [hj, hk] at h2; cases h2
      | some z =>
        rw [hi, hj] at h
        rw [hj, hk] at h2
        exact ltI_trans h h2
theorem bst_spec (l : List It) (hs : List Hg) (g : Hg) (d : List Bool) : ∀ q, (bstN l hs g d q = none → ∀ i, i < q → cand hs g d i = false) ∧ ∀ b, bstN l hs g d q = some b → b < q ∧ cand hs g d b = true ∧ ∀ i, i < q → cand hs g d i = true → ltN l i b = false
  | 0 => ⟨fun _ i h => absurd h (Nat.not_lt_zero _), fun b h => by cases h⟩
  | q + 1 => by
    obtain ⟨h1, h2⟩ := bst_spec l hs g d q
    cases hc : cand hs g d q with
    | false =>
      have e : bstN l hs g d (q + 1) = bstN l hs g d q := by rw [bstN, hc]; rfl
      rw [e]
      refine ⟨fun hn i hi => ?_, fun b hb => ?_⟩
      · rcases Nat.lt_or_ge i q with h | h
        · exact h1 hn i h
        · rw [show i = q by omega]; exact hc
      · obtain ⟨k1, k2, k3⟩ := h2 b hb
        refine ⟨by omega, k2, fun i hi hci => ?_⟩
        rcases Nat.lt_or_ge i q with h | h
        · exact k3 i h hci
        · rw [show i = q by omega, hc] at hci; cases hci
    | true =>
      cases hb0 : bstN l hs g d q with
      | none =>
        have e : bstN l hs g d (q + 1) = some q := by rw [bstN, hc, hb0]; rfl
        rw [e]
        refine ⟨fun hn => (by cases hn), fun b hb => ?_⟩
        injection hb with hb
        subst hb
        refine ⟨by omega, hc, fun i hi hci => ?_⟩
        rcases Nat.lt_or_ge i q with h | h
        · rw [h1 hb0 i h] at hci; cases hci
        · rw [show i = q by omega]; exact ltN_irr l q
      | some b0 =>
        obtain ⟨k1, k2, k3⟩ := h2 b0 hb0
        cases hlt : ltN l q b0 with
        | true =>
          have e : bstN l hs g d (q + 1) = some q := by rw [bstN, hc, hb0]; simp [hlt]
          rw [e]
          refine ⟨fun hn => (by cases hn), fun b hb => ?_⟩
          injection hb with hb
          subst hb
          refine ⟨by omega, hc, fun i hi hci => ?_⟩
          rcases Nat.lt_or_ge i q with h | h
          · cases hiq : ltN l i q with
            | false => rfl
            | true => exact absurd (k3 i h hci) (by rw [ltN_trans hiq hlt]; simp)
          · rw [show i = q by omega]; exact ltN_irr l q
        | false =>
          have e : bstN l hs g d (q + 1) = some b0 := by rw [bstN, hc, hb0]; simp [hlt]
          rw [e]
          refine ⟨fun hn => (by cases hn), fun b hb => ?_⟩
          injection hb with hb
          subst hb
          refine ⟨by omega, k2, fun i hi hci => ?_⟩
          rcases Nat.lt_or_ge i q with h | h
          · exact k3 i h hci
          · rw [show i = q by omega]; exact hlt

def doneI (l : List It) (K : List I2) : List Bool := l.map fun x => decide (iid x ∈ K)
theorem done_at {l : List It} {K : List I2} {i : Nat} {x : It} (h : l[i]? = some x) : (doneI l K)[i]? = some (decide (iid x ∈ K)) := by
  unfold doneI
  rw [List.getElem?_map, h]; rfl
theorem done_len (l : List It) (K : List I2) : (doneI l K).length = l.length := by unfold doneI; rw [List.length_map]
theorem ins_length (a : I2) : ∀ l : List I2, (insI a l).length = l.length + 1
  | [] => rfl
  | b :: l => by
    rw [insI]
    split
    · rfl
    · rw [List.length_cons, ins_length a l, List.length_cons]
theorem srt_length : ∀ l : List I2, (srtI l).length = l.length
  | [] => rfl
  | a :: l => by
    show (insI a (srtI l)).length = _
    rw [ins_length, srt_length l, List.length_cons]
abbrev kidS (l : List It) (g : Hg) : List I2 := srtI (kidsI l (hangsP l) g)
theorem kid_len (l : List It) (g : Hg) : (kidS l g).length ≤ l.length := by
  show (srtI _).length ≤ _
  rw [srt_length]
  unfold kidsI
  rw [List.length_map]
  refine Nat.le_trans (List.length_filter_le _ _) ?_
  rw [List.length_zip, hangs_len, Nat.min_self]; exact Nat.le_refl _
theorem id_once {l : List It} (h : knownI l = true) {i j : Nat} {x y : It} (hx : l[i]? = some x) (hy : l[j]? = some y) (e : iid x = iid y) : i = j := by
  have hn := ids_nodup h
  have h1 : (l.map iid)[i]? = some (iid x) := by rw [List.getElem?_map, hx]; rfl
  have h2 : (l.map iid)[j]? = some (iid x) := by rw [List.getElem?_map, hy, e]; rfl
  have l1 := (List.getElem?_eq_some_iff.1 h1).1
  exact (List.getElem?_inj l1 hn).1 (h1.trans h2.symm)
theorem kid_at {l : List It} (h : knownI l = true) {g : Hg} {i : Nat} {x : It} {z : Hg} (hx : l[i]? = some x) (hz : (hangsP l)[i]? = some z) : iid x ∈ kidS l g ↔ (z.on = g.on ∧ z.right = g.right) := by
  show iid x ∈ srtI _ ↔ _
  rw [srt_mem]
  unfold kidsI
  rw [List.mem_map]
  constructor
  · rintro ⟨p, hp, e⟩
    rw [List.mem_filter, decide_eq_true_eq] at hp
    obtain ⟨hm, hc⟩ := hp
    obtain ⟨j, hj⟩ := List.getElem?_of_mem hm
    rw [List.getElem?_zip_eq_some] at hj
    have := id_once h hj.1 hx e
    subst this
    rw [hz] at hj
    injection hj.2 with e2
    rw [e2]; exact hc
  · intro hc
    refine ⟨(x, z), ?_, rfl⟩
    rw [List.mem_filter, decide_eq_true_eq]
    refine ⟨?_, hc⟩
    apply List.mem_of_getElem? (i := i)
    rw [List.getElem?_zip_eq_some]
    exact ⟨hx, hz⟩
theorem kid_rise {l : List It} (h : knownI l = true) (g : Hg) : (kidS l g).Pairwise (fun x y => ltI x y = true) := srt_rise (kids_nodup h g)
theorem kid_nodup {l : List It} (h : knownI l = true) (g : Hg) : (kidS l g).Nodup := by
  refine (kid_rise h g).imp ?_
  intro a b hab e
  subst e
  have := ltI_asymm hab
  rw [hab] at this; cases this
theorem cand_at {l : List It} (h : knownI l = true) {g : Hg} {r i : Nat} {x : It} (hx : l[i]? = some x) : cand (hangsP l) g (doneI l ((kidS l g).take r)) i = true ↔ iid x ∈ (kidS l g).drop r := by
  obtain ⟨z, hz⟩ : ∃ z, (hangsP l)[i]? = some z := ⟨_, hangs_at l hx⟩
  have hk := kid_at h (g := g) hx hz
  unfold cand
  rw [hz, done_at hx]
  simp only [Option.getD_some, Bool.and_eq_true, decide_eq_true_eq, Bool.not_eq_true', decide_eq_false_iff_not]
  rw [← hk]
  have hnd := kid_nodup h g
  have hm : iid x ∈ kidS l g ↔ iid x ∈ (kidS l g).take r ∨ iid x ∈ (kidS l g).drop r := by rw [← List.mem_append, List.take_append_drop]
  rw [hm]
  rw [← List.take_append_drop r (kidS l g), List.nodup_append] at hnd
  constructor
  · rintro ⟨h1 | h1, h2⟩
    · exact absurd h1 h2
    · exact h1
  · intro h1
    exact ⟨.inr h1, fun h2 => hnd.2.2 _ h2 _ h1 rfl⟩
theorem best_none {l : List It} (h : knownI l = true) {g : Hg} {r : Nat} (hr : (kidS l g).length ≤ r) : bstN l (hangsP l) g (doneI l ((kidS l g).take r)) l.length = none := by
  cases hb : bstN l (hangsP l) g (doneI l ((kidS l g).take r)) l.length with
  | none => rfl
  | some b =>
    obtain ⟨h1, h2, _⟩ := (bst_spec l (hangsP l) g _ l.length).2 b hb
    rw [cand_at h (List.getElem?_eq_getElem h1), List.drop_eq_nil_of_le hr] at h2
    cases h2
theorem best_some {l : List It} (h : knownI l = true) {g : Hg} {r : Nat} {c : I2} (hr : (kidS l g)[r]? = some c) : ∃ (b : Nat) (x : It), bstN l (hangsP l) g (doneI l ((kidS l g).take r)) l.length = some b ∧ l[b]? = some x ∧ iid x = c := by
  have hd := drop_get hr
  have hcK : c ∈ kidS l g := List.mem_of_getElem? hr
  have hcl : ∃ (i : Nat) (x : It), l[i]? = some x ∧ iid x = c := by
    have : c ∈ kidsI l (hangsP l) g := srt_mem.1 hcK
    unfold kidsI at this
    obtain ⟨p, hp, e⟩ := List.mem_map.1 this
    obtain ⟨j, hj⟩ := List.getElem?_of_mem (List.mem_filter.1 hp).1
    rw [List.getElem?_zip_eq_some] at hj
    exact ⟨j, p.1, hj.1, e⟩
  obtain ⟨i, x, hx, e⟩ := hcl
  have hi := (List.getElem?_eq_some_iff.1 hx).1
  have hci : cand (hangsP l) g (doneI l ((kidS l g).take r)) i = true := (cand_at h hx).2 (by rw [hd, e]; exact List.mem_cons_self ..)
  cases hb : bstN l (hangsP l) g (doneI l ((kidS l g).take r)) l.length with
  | none =>
    rw [(bst_spec l (hangsP l) g _ l.length).1 hb i hi] at hci; cases hci
  | some b =>
    obtain ⟨h1, h2, h3⟩ := (bst_spec l (hangsP l) g _ l.length).2 b hb
    obtain ⟨y, hy⟩ : ∃ y, l[b]? = some y := ⟨_, List.getElem?_eq_getElem h1⟩
    refine ⟨b, y, rfl, hy, ?_⟩
    rw [cand_at h hy, hd] at h2
    rcases List.mem_cons.1 h2 with e2 | e2
    · exact e2
    · have hp := (kid_rise h g).sublist (List.drop_sublist r (kidS l g))
      rw [hd, List.pairwise_cons] at hp
      have hlt := hp.1 _ e2
      have h4 := h3 i hi hci
      unfold ltN at h4
      rw [hx, hy] at h4
      simp only [e] at h4
      rw [hlt] at h4; cases h4
theorem done_step {l : List It} (h : knownI l = true) {K : List I2} {r b : Nat} {c : I2} {x : It} (hr : K[r]? = some c) (hx : l[b]? = some x) (e : iid x = c) : doneI l (K.take (r + 1)) = (doneI l (K.take r)).set b true := by
  apply List.ext_getElem?
  intro i
  rw [List.getElem?_set]
  rcases Nat.lt_or_ge i l.length with hi | hi
  · obtain ⟨y, hy⟩ : ∃ y, l[i]? = some y := ⟨_, List.getElem?_eq_getElem hi⟩
    rw [done_at hy, done_at hy, take_get hr]
    by_cases hbi : b = i
    · subst hbi
      rw [hx] at hy
      injection hy with hy
      subst hy
      rw [if_pos rfl, if_pos (by rw [done_len]; exact hi)]
      simp [e]
    · rw [if_neg hbi]
      have : iid y ≠ c := fun e2 => hbi (id_once h hx hy (e.trans e2.symm))
      simp [this]
  · have hbl := (List.getElem?_eq_some_iff.1 hx).1
    rw [if_neg (by omega), List.getElem?_eq_none (by rw [done_len]; exact hi), List.getElem?_eq_none (by rw [done_len]; exact hi)]
/-! how deep the walk goes -/
theorem kid_deep {l : List It} (h : knownI l = true) {g : Hg} (hg : g.on = (0, 0) ∨ hasI l g.on = true) {c : I2} (hc : c ∈ kidS l g) : hasI l c = true ∧ (pth l c).length = (pth l g.on).length + 1 := by
  obtain ⟨h1, h2⟩ := (kids_mem h hg).1 (srt_mem.1 hc)
  exact ⟨h1, by rw [h2]; simp⟩
theorem kid_zero {l : List It} (h : knownI l = true) {g : Hg} (hg : g.on = (0, 0) ∨ hasI l g.on = true) (hd : l.length ≤ (pth l g.on).length) : kidS l g = [] := by
  cases hk : kidS l g with
  | nil => rfl
  | cons c K =>
    obtain ⟨_, h2⟩ := kid_deep h hg (c := c) (by rw [hk]; exact List.mem_cons_self ..)
    have := pth_length h c
    omega
theorem walk_step (l : List It) (m : Nat) (g : Hg) : walkS l (hangsP l) (m + 1) g = (kidS l g).flatMap fun a => walkS l (hangsP l) m ⟨a, false⟩ ++ a :: walkS l (hangsP l) m ⟨a, true⟩ := rfl
theorem flat_take_step {K : List I2} {r : Nat} {c : I2} (f : I2 → List I2) (hr : K[r]? = some c) : (K.take (r + 1)).flatMap f = (K.take r).flatMap f ++ f c := by
  rw [take_get hr, List.flatMap_append]
  simp

end Go.Proofs.Ytmpomammieenjaa
