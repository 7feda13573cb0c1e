/-
  How long the walk's lists are, in plain mathematics: no memory; no claim stands here.
-/
import Derived.Test.YtmpomammieenjaaTBst
namespace Go.Proofs.Ytmpomammieenjaa
set_option linter.unusedVariables false

theorem len_sub {α : Type} [DecidableEq α] : ∀ {a b : List α}, a.Nodup → (∀ x ∈ a, x ∈ b) → a.length ≤ b.length
  | [], b, _, _ => Nat.zero_le _
  | x :: a, b, hn, hs => by
    rw [List.nodup_cons] at hn
    have hx := hs x (List.mem_cons_self ..)
    have h1 : a.length ≤ (b.erase x).length := len_sub hn.2 (fun y hy => (List.mem_erase_of_ne (a := y) (b := x) (fun e : y = x => hn.1 (e ▸ hy))).2 (hs y (List.mem_cons_of_mem _ hy)))
    rw [List.length_erase_of_mem hx] at h1
    have : 0 < b.length := List.length_pos_of_mem hx
    rw [List.length_cons]
    omega
theorem walk_len {l : List It} (h : knownI l = true) (m : Nat) (g : Hg) (hg : g.on = (0, 0) ∨ hasI l g.on = true) : (walkS l (hangsP l) m g).length ≤ l.length := by
  obtain ⟨h1, h2⟩ := walk_is h m g hg
  have h3 : (walkS l (hangsP l) m g).length ≤ (l.map iid).length := len_sub (nodup_of_rise h2) (fun a ha => by
    obtain ⟨x, hx, e⟩ := has_iffI.1 ((h1 a).1 ha).1
    exact List.mem_map.2 ⟨x, hx, e⟩)
  rwa [List.length_map] at h3
theorem part_len {K : List I2} (f : I2 → List I2) (r : Nat) : ((K.take r).flatMap f).length ≤ (K.flatMap f).length := by
  have : K.flatMap f = (K.take r).flatMap f ++ (K.drop r).flatMap f := by rw [← List.flatMap_append, List.take_append_drop]
  rw [this, List.length_append]; omega

end Go.Proofs.Ytmpomammieenjaa
