/-
  Items where they hang, by numbers: nodes, ways up, in plain mathematics: no memory; no claim stands here.
-/
import Derived.Test.YtmpomammieenjaaTBst
namespace Go.Proofs.Ytmpomammieenjaa
set_option linter.unusedVariables false

structure Nd where
  id : I2
  on : Nat
  right : Bool
  depth : Nat
  far : Nat
def nd0 : Nd := ⟨(0, 0), 0, false, 0, 0⟩
def numI (l : List It) (a : I2) : Nat := match fnd l a with
  | none => 0
  | some i => i + 1
def pthN (l : List It) (n : Nat) : Pth := if n = 0 then [] else ((l[n - 1]?).map fun x => pth l (iid x)).getD []
theorem pthN_zero (l : List It) : pthN l 0 = [] := rfl
theorem pthN_at {l : List It} {i : Nat} {x : It} (h : l[i]? = some x) : pthN l (i + 1) = pth l (iid x) := by
  unfold pthN
  rw [if_neg (by omega), Nat.add_sub_cancel, h]; rfl
theorem numI_at {l : List It} {a : I2} {i : Nat} (h : fnd l a = some i) : numI l a = i + 1 := by unfold numI; rw [h]
theorem numI_le (l : List It) (a : I2) : numI l a ≤ l.length := by
  unfold numI
  cases h : fnd l a with
  | none => exact Nat.zero_le _
  | some i =>
    obtain ⟨x, hx, _⟩ := fnd_some h
    rcases Nat.lt_or_ge i l.length with g | g
    · exact g
    · rw [List.getElem?_eq_none g] at hx; cases hx
theorem pthN_num {l : List It} (h : knownI l = true) (a : I2) : pthN l (numI l a) = pth l a := by
  cases hf : fnd l a with
  | none =>
    have : numI l a = 0 := by unfold numI; rw [hf]
    rw [this, pthN_zero, pth_none (fnd_none.1 hf)]
  | some i =>
    obtain ⟨x, hx, e⟩ := fnd_some hf
    rw [numI_at hf, pthN_at hx, e]
theorem lt_of_get {α : Type} {l : List α} {i : Nat} {x : α} (h : l[i]? = some x) : i < l.length := by
  rcases Nat.lt_or_ge i l.length with g | g
  · exact g
  · rw [List.getElem?_eq_none g] at h; cases h
theorem pth_len_le {l : List It} (h : knownI l = true) {n : Nat} (hn : n ≤ l.length) : (pthN l n).length ≤ l.length := by
  cases n with
  | zero => simp [pthN_zero]
  | succ i =>
    obtain ⟨y, hy⟩ : ∃ y, l[i]? = some y := ⟨l[i], List.getElem?_eq_getElem (by omega)⟩
    rw [pthN_at hy]
    exact pth_length h _
theorem pthN_snoc {l : List It} {x : It} (hk : knownI (l ++ [x]) = true) {n : Nat} (hn : n ≤ l.length) : pthN (l ++ [x]) n = pthN l n := by
  cases n with
  | zero => rfl
  | succ i =>
    obtain ⟨y, hy⟩ : ∃ y, l[i]? = some y := ⟨l[i], List.getElem?_eq_getElem (by omega)⟩
    have hy' : (l ++ [x])[i]? = some y := by rw [List.getElem?_append_left (by omega)]; exact hy
    rw [pthN_at hy, pthN_at hy', pth_old (has_iffI.2 ⟨y, List.mem_of_getElem? hy, rfl⟩)]
theorem pthN_new {l : List It} {x : It} (hk : knownI (l ++ [x]) = true) : pthN (l ++ [x]) (l.length + 1) = pthN l (numI l (hgP l x).on) ++ [((hgP l x).right, iid x)] := by
  have hk' := hk
  rw [known_snoc, Bool.and_eq_true] at hk'
  rw [pthN_at (by simp : (l ++ [x])[l.length]? = some x), pth_new (knownX_spec hk'.2).2.1, newP_eq, pthN_num hk'.1]

structure GrN (l : List It) (ns : List Nd) : Prop where
  len : ns.length = l.length + 1
  root : ns[0]? = some nd0
  ids : ∀ i x, l[i]? = some x → ∃ nd, ns[i + 1]? = some nd ∧ nd.id = iid x
  deep : ∀ n nd, ns[n]? = some nd → nd.depth = (pthN l n).length ∧ nd.on ≤ l.length ∧ nd.far ≤ l.length ∧ ∃ q, pthN l n = pthN l nd.far ++ q ∧ (0 < n → q ≠ [])
  up : ∀ n nd, ns[n]? = some nd → 0 < n → pthN l n = pthN l nd.on ++ [(nd.right, nd.id)]

theorem GrN.get {l : List It} {ns : List Nd} (h : GrN l ns) {n : Nat} (hn : n ≤ l.length) : ∃ nd, ns[n]? = some nd := ⟨ns[n]'(by rw [h.len]; omega), List.getElem?_eq_getElem (by rw [h.len]; omega)⟩
theorem GrN.nil : GrN [] [nd0] where
  len := rfl
  root := rfl
  ids i x h := by simp at h
  deep n nd h := by
    cases n with
    | zero => simp at h; subst h; exact ⟨rfl, Nat.le_refl _, Nat.le_refl _, [], rfl, fun h => absurd h (by omega)⟩
    | succ n => simp at h
  up n nd h h0 := by
    cases n with
    | zero => omega
    | succ n => simp at h

theorem GrN.snoc {l : List It} {ns : List Nd} {x : It} (h : GrN l ns) (hk : knownI (l ++ [x]) = true) {f : Nat} {q : Pth} (hf : f ≤ l.length) (hq : pthN l (numI l (hgP l x).on) = pthN l f ++ q) {nd : Nd} (hn : ns[numI l (hgP l x).on]? = some nd) :
    GrN (l ++ [x]) (ns ++ [⟨iid x, numI l (hgP l x).on, (hgP l x).right, nd.depth + 1, f⟩]) where
  len := by simp [h.len]
  root := by rw [List.getElem?_append_left (by rw [h.len]; omega)]; exact h.root
  ids i y hy := by
    rcases Nat.lt_or_ge i l.length with g | g
    · rw [List.getElem?_append_left g] at hy
      obtain ⟨z, hz, e⟩ := h.ids i y hy
      exact ⟨z, by rw [List.getElem?_append_left (by rw [h.len]; omega)]; exact hz, e⟩
    · rw [List.getElem?_append_right g] at hy
      have hi : i - l.length = 0 := by
        rcases Nat.eq_zero_or_pos (i - l.length) with e | e
        · exact e
        · rw [List.getElem?_eq_none (by simp; omega)] at hy; cases hy
      have hi' : i = l.length := by omega
      subst hi'
      simp at hy
      subst hy
      exact ⟨_, by rw [List.getElem?_append_right (by rw [h.len]; omega), h.len, Nat.sub_self]; rfl, rfl⟩
  deep n z hz := by
    rcases Nat.lt_or_ge n ns.length with g | g
    · rw [List.getElem?_append_left g] at hz
      have hnl : n ≤ l.length := by rw [h.len] at g; omega
      obtain ⟨d1, d2, d3, q1, d4, d5⟩ := h.deep n z hz
      refine ⟨by rw [pthN_snoc hk hnl]; exact d1, by simp; omega, by simp; omega, q1, ?_, d5⟩
      rw [pthN_snoc hk hnl, pthN_snoc hk d3]; exact d4
    · have hi : n = l.length + 1 := by
        have := lt_of_get hz
        simp [h.len] at this
        rw [h.len] at g
        omega
      subst hi
      rw [List.getElem?_append_right (by rw [h.len]; omega), h.len, Nat.sub_self] at hz
      simp at hz
      subst hz
      obtain ⟨d1, _⟩ := h.deep _ _ hn
      refine ⟨?_, by have := numI_le l (hgP l x).on; simp; omega, by simp; omega, q ++ [((hgP l x).right, iid x)], ?_, fun _ => by simp⟩
      · rw [pthN_new hk, List.length_append]
        show nd.depth + 1 = _
        rw [d1]; rfl
      · rw [pthN_new hk, pthN_snoc hk hf, hq, List.append_assoc]
  up n z hz h0 := by
    rcases Nat.lt_or_ge n ns.length with g | g
    · rw [List.getElem?_append_left g] at hz
      have hnl : n ≤ l.length := by rw [h.len] at g; omega
      obtain ⟨d1, d2, d3, q1, d4, d5⟩ := h.deep n z hz
      rw [pthN_snoc hk hnl, pthN_snoc hk d2]
      exact h.up n z hz h0
    · have hi : n = l.length + 1 := by
        have := lt_of_get hz
        simp [h.len] at this
        rw [h.len] at g
        omega
      subst hi
      rw [List.getElem?_append_right (by rw [h.len]; omega), h.len, Nat.sub_self] at hz
      simp at hz
      subst hz
      have := numI_le l (hgP l x).on
      rw [pthN_new hk, pthN_snoc hk this]

def farF (ns : List Nd) (on : Nat) : Nat :=
  let far := (ns.getD on nd0).far
  let farther := (ns.getD far nd0).far
  if ((ns.getD on nd0).depth : Int) - (ns.getD far nd0).depth = ((ns.getD far nd0).depth : Int) - (ns.getD farther nd0).depth then farther else on
theorem getD_of {ns : List Nd} {n : Nat} {nd : Nd} (h : ns[n]? = some nd) : ns.getD n nd0 = nd := by rw [List.getD_eq_getElem?_getD, h]; rfl
theorem GrN.farF_is {l : List It} {ns : List Nd} (h : GrN l ns) {on : Nat} (ho : on ≤ l.length) : farF ns on ≤ l.length ∧ ∃ q, pthN l on = pthN l (farF ns on) ++ q := by
  obtain ⟨a, ha⟩ := h.get ho
  obtain ⟨_, _, a3, q1, a4, _⟩ := h.deep _ _ ha
  obtain ⟨b, hb⟩ := h.get a3
  obtain ⟨_, _, b3, q2, b4, _⟩ := h.deep _ _ hb
  unfold farF
  simp only [getD_of ha, getD_of hb]
  split
  · exact ⟨b3, q2 ++ q1, by rw [a4, b4, List.append_assoc]⟩
  · exact ⟨ho, [], by simp⟩

theorem below_is {l : List It} (h : knownI l = true) {a b : I2} (ha : hasI l a = true) (hb : hasI l b = true) :
    blwP l (paths l) a b = (decide ((pth l b).length < (pth l a).length) && decide ((pth l a).take (pth l b).length = pth l b)) := by
  have hb0 : b.1 ≠ 0 := fun e => by
    have := has_root h b.2
    rw [show ((0 : Int), b.2) = b from by rw [← e]] at this
    rw [this] at hb; cases hb
  obtain ⟨sb, pb, eb, _⟩ := pth_ends h b hb
  obtain ⟨sa, pa, ea, _⟩ := pth_ends h a ha
  have hd : (pth l a).dropLast = pa := by rw [ea]; simp
  unfold blwP
  rw [decide_eq_false hb0, Bool.false_or]
  show (pth l a).dropLast.any _ = _
  rw [hd, Bool.eq_iff_iff]
  simp only [List.any_eq_true, decide_eq_true_eq, Bool.and_eq_true]
  constructor
  · rintro ⟨⟨s, c⟩, hm, rfl⟩
    obtain ⟨u, v, e⟩ := List.append_of_mem hm
    have e2 : pth l a = u ++ (s, c) :: (v ++ [(sa, a)]) := by rw [ea, e]; simp
    obtain ⟨_, e3⟩ := pth_part h ha e2
    rw [e3, e2]
    refine ⟨by simp, ?_⟩
    rw [List.length_append, List.length_singleton, List.take_append, List.take_of_length_le (by omega), show u.length + 1 - u.length = 1 by omega]
    rfl
  · rintro ⟨h1, h2⟩
    refine ⟨(sb, b), ?_, rfl⟩
    rw [ea, eb] at h2
    rw [ea, eb] at h1
    simp only [List.length_append, List.length_singleton] at h1 h2
    rw [List.take_append, show pb.length + 1 - pa.length = 0 by omega, List.take_zero, List.append_nil] at h2
    have : (sb, b) ∈ pa.take (pb.length + 1) := by rw [h2]; simp
    exact List.mem_of_mem_take this

end Go.Proofs.Ytmpomammieenjaa
