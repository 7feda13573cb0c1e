/-
  Of the known items that haven't come one can come, in plain mathematics: no memory; no claim stands here.
-/
import Derived.Test.YtmpomammieenjaaTBst
namespace Go.Proofs.Ytmpomammieenjaa
set_option linter.unusedVariables false

theorem known_once {m : List It} (h : knownI m = true) {x y : It} (hx : x ∈ m) (hy : y ∈ m) (e : iid x = iid y) : x = y := by
  obtain ⟨i, hi⟩ := List.getElem?_of_mem hx
  obtain ⟨j, hj⟩ := List.getElem?_of_mem hy
  have := id_once h hi hj e
  subst this
  rw [hi] at hj
  exact Option.some.inj hj
structure Parts (m other rest : List It) : Prop where
  ho : ∀ x ∈ other, x ∈ m
  hr : ∀ x ∈ rest, x ∈ m
  dis : ∀ x ∈ rest, x ∉ other
  cov : ∀ x ∈ m, x ∈ other ∨ x ∈ rest
  once : rest.Nodup
  len : other.length + rest.length = m.length
theorem Parts.step {m other rest : List It} (h : Parts m other rest) {j : Nat} {z : It} (hz : rest[j]? = some z) : Parts m (other ++ [z]) (rest.take j ++ rest.drop (j + 1)) := by
  have hzm := List.mem_of_getElem? hz
  have hsp : rest = rest.take j ++ z :: rest.drop (j + 1) := by rw [← drop_get hz, List.take_append_drop]
  have hn := h.once
  rw [hsp, List.nodup_append, List.nodup_cons] at hn
  have hsub : ∀ x, x ∈ rest.take j ++ rest.drop (j + 1) → x ∈ rest ∧ x ≠ z := by
    intro x hx
    rcases List.mem_append.1 hx with hx | hx
    · exact ⟨List.mem_of_mem_take hx, hn.2.2 x hx z (List.mem_cons_self ..)⟩
    · exact ⟨List.mem_of_mem_drop hx, fun e => hn.2.1.1 (e ▸ hx)⟩
  refine ⟨?_, ?_, ?_, ?_, ?_, ?_⟩
  · intro x hx
    rcases List.mem_append.1 hx with hx | hx
    · exact h.ho x hx
    · rw [List.mem_singleton.1 hx]; exact h.hr z hzm
  · exact fun x hx => h.hr x (hsub x hx).1
  · intro x hx hx2
    rcases List.mem_append.1 hx2 with hx2 | hx2
    · exact h.dis x (hsub x hx).1 hx2
    · exact (hsub x hx).2 (List.mem_singleton.1 hx2)
  · intro x hx
    rcases h.cov x hx with h1 | h1
    · exact .inl (List.mem_append_left _ h1)
    · rw [hsp] at h1
      rcases List.mem_append.1 h1 with h1 | h1
      · exact .inr (List.mem_append_left _ h1)
      · rcases List.mem_cons.1 h1 with h1 | h1
        · exact .inl (List.mem_append_right _ (List.mem_singleton.2 h1))
        · exact .inr (List.mem_append_right _ h1)
  · rw [List.nodup_append]
    exact ⟨hn.1, hn.2.1.2, fun a ha b hb => hn.2.2 a ha b (List.mem_cons_of_mem _ hb)⟩
  · have h1 := congrArg List.length hsp
    have h2 := h.len
    simp only [List.length_append, List.length_cons, List.length_nil] at h1 ⊢
    omega

end Go.Proofs.Ytmpomammieenjaa
