/-
  Of the known items that haven't come one can come, in plain mathematics: no memory; no claim stands here.
-/
import Derived.Test.YtmpomammieenjaaTBst
namespace Go.Proofs.Ytmpomammieenjaa
set_option linter.unusedVariables false

theorem known_once {m : List It} (h : knownI m = true) {x y : It} (hx : x ∈ m) (hy : y ∈ m) (e : iid x = iid y) : x = y := by
  obtain ⟨i, hi⟩ := List.getElem?_of_mem hx
  obtain ⟨j, hj⟩ := List.getElem?_of_mem hy
  have := id_once h hi hj e
  subst this
  rw [hi] at hj
  exact Option.some.inj hj
theorem come_at {m other rest : List It} (hm : knownI m = true) (ho : ∀ x ∈ other, x ∈ m) (hr : ∀ x ∈ rest, x ∈ m) (hdis : ∀ x ∈ rest, x ∉ other) (hcov : ∀ x ∈ m, x ∈ other ∨ x ∈ rest) :
    ∀ (i : Nat) (x : It), m[i]? = some x → x ∈ rest → ∃ z ∈ rest, knownX other z = true := by
  intro i
  induction i using Nat.strongRecOn with
  | ind i ih =>
    intro x hx hxr
    obtain ⟨hk, _⟩ := known_at hm hx
    obtain ⟨h1, h2, h3, h4⟩ := knownX_spec hk
    have hno : hasI other (iid x) = false := by
      cases hh : hasI other (iid x) with
      | false => rfl
      | true =>
        obtain ⟨y, hy, e⟩ := has_iffI.1 hh
        have := known_once hm (ho y hy) (hr x hxr) e
        subst this
        exact absurd hy (hdis y hxr)
    -- what it names has come, or stands ahead of it
    have key : ∀ a, hasI (m.take i) a = true → hasI other a = true ∨ ∃ z ∈ rest, knownX other z = true := by
      intro a ha
      obtain ⟨y, hy, e⟩ := has_iffI.1 ha
      rcases hcov y (List.mem_of_mem_take hy) with h | h
      · exact .inl (has_iffI.2 ⟨y, h, e⟩)
      · obtain ⟨j, hj⟩ := List.getElem?_of_mem hy
        have hji : j < i := by
          have := (List.getElem?_eq_some_iff.1 hj).1
          rw [List.length_take] at this
          omega
        rw [List.getElem?_take, if_pos hji] at hj
        exact .inr (ih j hji y hj h)
    have hL : (x.lc = 0 ∨ hasI other (ilf x) = true) ∨ ∃ z ∈ rest, knownX other z = true := by
      rcases h3 with h | h
      · exact .inl (.inl h)
      · rcases key _ h with h | h
        · exact .inl (.inr h)
        · exact .inr h
    have hR : (x.rc = 0 ∨ hasI other (irt x) = true) ∨ ∃ z ∈ rest, knownX other z = true := by
      rcases h4 with h | h
      · exact .inl (.inl h)
      · rcases key _ h with h | h
        · exact .inl (.inr h)
        · exact .inr h
    rcases hL with hL | hL
    · rcases hR with hR | hR
      · refine ⟨x, hxr, ?_⟩
        unfold knownX
        simp only [Bool.and_eq_true, Bool.or_eq_true, decide_eq_true_eq, Bool.not_eq_true']
        exact ⟨⟨⟨h1, hno⟩, hL⟩, hR⟩
      · exact hR
    · exact hL
theorem come_some {m other rest : List It} (hm : knownI m = true) (ho : ∀ x ∈ other, x ∈ m) (hr : ∀ x ∈ rest, x ∈ m) (hdis : ∀ x ∈ rest, x ∉ other) (hcov : ∀ x ∈ m, x ∈ other ∨ x ∈ rest) (hne : rest ≠ []) :
    ∃ (j : Nat) (z : It), rest[j]? = some z ∧ knownX other z = true := by
  cases rest with
  | nil => exact absurd rfl hne
  | cons x r =>
    obtain ⟨i, hi⟩ := List.getElem?_of_mem (hr x (List.mem_cons_self ..))
    obtain ⟨z, hz, hk⟩ := come_at hm ho hr hdis hcov i x hi (List.mem_cons_self ..)
    obtain ⟨j, hj⟩ := List.getElem?_of_mem hz
    exact ⟨j, z, hj, hk⟩
structure Parts (m other rest : List It) : Prop where
  ho : ∀ x ∈ other, x ∈ m
  hr : ∀ x ∈ rest, x ∈ m
  dis : ∀ x ∈ rest, x ∉ other
  cov : ∀ x ∈ m, x ∈ other ∨ x ∈ rest
  once : rest.Nodup
  len : other.length + rest.length = m.length
theorem known_nodup {m : List It} (h : knownI m = true) : m.Nodup := by
  have := ids_nodup h
  unfold List.Nodup at this ⊢
  rw [List.pairwise_map] at this
  exact this.imp (fun hab e => hab (by rw [e]))
theorem Parts.start {m : List It} (h : knownI m = true) : Parts m [] m :=
  ⟨by simp, fun x hx => hx, by simp, fun x hx => .inr hx, known_nodup h, by simp⟩
theorem Parts.step {m other rest : List It} (h : Parts m other rest) {j : Nat} {z : It} (hz : rest[j]? = some z) : Parts m (other ++ [z]) (rest.take j ++ rest.drop (j + 1)) := by
  have hzm := List.mem_of_getElem? hz
  have hsp : rest = rest.take j ++ z :: rest.drop (j + 1) := by rw [← drop_get hz, List.take_append_drop]
  have hn := h.once
  rw [hsp, List.nodup_append, List.nodup_cons] at hn
  have hsub : ∀ x, x ∈ rest.take j ++ rest.drop (j + 1) → x ∈ rest ∧ x ≠ z := by
    intro x hx
    rcases List.mem_append.1 hx with hx | hx
    · exact ⟨List.mem_of_mem_take hx, hn.2.2 x hx z (List.mem_cons_self ..)⟩
    · exact ⟨List.mem_of_mem_drop hx, fun e => hn.2.1.1 (e ▸ hx)⟩
  refine ⟨?_, ?_, ?_, ?_, ?_, ?_⟩
  · intro x hx
    rcases List.mem_append.1 hx with hx | hx
    · exact h.ho x hx
    · rw [List.mem_singleton.1 hx]; exact h.hr z hzm
  · exact fun x hx => h.hr x (hsub x hx).1
  · intro x hx hx2
    rcases List.mem_append.1 hx2 with hx2 | hx2
    · exact h.dis x (hsub x hx).1 hx2
    · exact (hsub x hx).2 (List.mem_singleton.1 hx2)
  · intro x hx
    rcases h.cov x hx with h1 | h1
    · exact .inl (List.mem_append_left _ h1)
    · rw [hsp] at h1
      rcases List.mem_append.1 h1 with h1 | h1
      · exact .inr (List.mem_append_left _ h1)
      · rcases List.mem_cons.1 h1 with h1 | h1
        · exact .inl (List.mem_append_right _ (List.mem_singleton.2 h1))
        · exact .inr (List.mem_append_right _ h1)
  · rw [List.nodup_append]
    exact ⟨hn.1, hn.2.1.2, fun a ha b hb => hn.2.2 a ha b (List.mem_cons_of_mem _ hb)⟩
  · have h1 := congrArg List.length hsp
    have h2 := h.len
    simp only [List.length_append, List.length_cons, List.length_nil] at h1 ⊢
    omega

end Go.Proofs.Ytmpomammieenjaa
