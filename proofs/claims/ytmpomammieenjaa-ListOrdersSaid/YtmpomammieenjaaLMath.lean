/-
  A list's entries, told by its items and what is deleted, in plain mathematics: no memory; no claim stands here.
-/
import Derived.Test.YtmpomammieenjaaTBtL
import Derived.Test.YtmpomammieenjaaXPl1
namespace Go.Proofs.Ytmpomammieenjaa
set_option linter.unusedVariables false

def ordL (l : List It) : List I2 := walkS l (hangsP l) l.length ⟨(0, 0), true⟩
theorem ordL_is {l : List It} (h : knownI l = true) : IsOrd l (ordL l) := walk_ord h _ (Nat.le_refl _)
def goneI (g : List I2) (a : I2) : Bool := g.any fun b => decide (b = a)
theorem goneI_iff {g : List I2} {a : I2} : goneI g a = true ↔ a ∈ g := by unfold goneI; simp
def chI (l : List It) (a : I2) : Int := match fnd l a with
  | some i => (l[i]?.map It.ch).getD 0
  | none => 0
theorem chI_at {l : List It} {a : I2} {i : Nat} {x : It} (h : fnd l a = some i) (hx : l[i]? = some x) : chI l a = x.ch := by
  unfold chI; rw [h]; simp only [hx]; rfl
theorem fnd_mem {l : List It} {a : I2} (h : hasI l a = true) : ∃ i x, fnd l a = some i ∧ l[i]? = some x ∧ iid x = a := by
  cases hf : fnd l a with
  | none => rw [fnd_none.1 hf] at h; cases h
  | some i =>
    obtain ⟨x, hx, e⟩ := fnd_some hf
    exact ⟨i, x, rfl, hx, e⟩
theorem chI_mem {l : List It} (hk : knownI l = true) {x : It} (hx : x ∈ l) : chI l (iid x) = x.ch := by
  obtain ⟨i, y, hf, hy, e⟩ := fnd_mem (has_iffI.2 ⟨x, hx, rfl⟩)
  rw [chI_at hf hy, known_once hk (List.mem_of_getElem? hy) hx e]
def entA (l : List It) (g : List I2) (a : I2) : En := ⟨a.1, a.2, chI l a, goneI g a⟩
def entL (l : List It) (g : List I2) : List En := (ordL l).map (entA l g)
theorem entL_len {l : List It} (h : knownI l = true) (g : List I2) : (entL l g).length = l.length := by
  unfold entL; rw [List.length_map]; exact ord_len h (ordL_is h)
theorem ent_same {l m : List It} {g q : List I2} (hl : knownI l = true) (hm : knownI m = true) (hs : ∀ x, x ∈ l ↔ x ∈ m) (hg : ∀ a, hasI l a = true → goneI g a = goneI q a) : entL l g = entL m q := by
  unfold entL
  rw [show ordL l = ordL m from again_is hm hl hs (ordL_is hm) (ordL_is hl)]
  refine List.map_congr_left fun a ha => ?_
  have hma := ((ordL_is hm).all a).1 ha
  obtain ⟨x, hx, rfl⟩ := has_iffI.1 hma
  have hla : hasI l (iid x) = true := has_iffI.2 ⟨x, (hs x).2 hx, rfl⟩
  unfold entA
  rw [chI_mem hl ((hs x).2 hx), chI_mem hm hx, hg _ hla]
theorem ent_has {l : List It} (h : knownI l = true) (g : List I2) (c k : Int) : hasE (entL l g) c k = hasI l (c, k) := by
  rw [Bool.eq_iff_iff, has_iff, ← (ordL_is h).all]
  unfold entL sameE
  constructor
  · rintro ⟨x, hx, e⟩
    obtain ⟨a, ha, rfl⟩ := List.mem_map.1 hx
    obtain ⟨e1, e2⟩ := of_decide_eq_true e
    have : a = (c, k) := Prod.ext e1 e2
    exact this ▸ ha
  · intro ha
    exact ⟨_, List.mem_map_of_mem ha, decide_eq_true ⟨rfl, rfl⟩⟩
theorem apart_map : ∀ (o : List I2) (f : I2 → En), (∀ a, (f a).c = a.1 ∧ (f a).k = a.2) → o.Nodup → apart (o.map f) = true
  | [], f, hf, h => rfl
  | a :: o, f, hf, h => by
    rw [List.nodup_cons] at h
    rw [List.map_cons, apart, apart_map o f hf h.2, Bool.and_true, Bool.not_eq_true', has_false]
    intro x hx
    obtain ⟨b, hb, rfl⟩ := List.mem_map.1 hx
    unfold sameE
    rw [decide_eq_false_iff_not, (hf a).1, (hf a).2, (hf b).1, (hf b).2]
    rintro ⟨e1, e2⟩
    have : b = a := Prod.ext e1 e2
    exact h.1 (this ▸ hb)
theorem ent_apart {l : List It} (h : knownI l = true) (g : List I2) : apart (entL l g) = true :=
  apart_map _ _ (fun a => ⟨rfl, rfl⟩) (nodup_of_rise (ordL_is h).rise)
end Go.Proofs.Ytmpomammieenjaa
