/-
  Items that wait, in plain lists: which are ready, which come, and that the same come whatever the order; no memory; no claim stands here.
-/
import Derived.Test.YtdpmhhfpjpdfiaaVMath
import Derived.Test.YtdpmhhfpjpdfiaaTMath
namespace Go.Proofs.Ytdpmhhfpjpdfiaa
set_option linter.unusedVariables false

def rdyI (v : List (Int × Int)) (x : It) : Bool := decide (x.k = nextOf v x.c) && ((decide (x.lc = 0) || decide (x.lk < nextOf v x.lc)) && (decide (x.rc = 0) || decide (x.rk < nextOf v x.rc)))
theorem rdy_iff {v : List (Int × Int)} {x : It} : rdyI v x = true ↔ x.k = nextOf v x.c ∧ (x.lc = 0 ∨ x.lk < nextOf v x.lc) ∧ (x.rc = 0 ∨ x.rk < nextOf v x.rc) := by
  simp [rdyI]

def fstR (v : List (Int × Int)) : List It → Option (It × List It)
  | [] => none
  | x :: l => if rdyI v x then some (x, l) else (fstR v l).map fun p => (p.1, x :: p.2)

theorem fst_none {v : List (Int × Int)} : ∀ {l : List It}, fstR v l = none ↔ ∀ x ∈ l, rdyI v x = false
  | [] => by simp [fstR]
  | x :: l => by
    have ih := fst_none (v := v) (l := l)
    simp only [fstR]
    by_cases h : rdyI v x = true
    · simp [h]
    · simp [h, ih]
theorem fst_some {v : List (Int × Int)} : ∀ {l : List It} {x : It} {r : List It}, fstR v l = some (x, r) → ∃ a b, l = a ++ x :: b ∧ r = a ++ b ∧ rdyI v x = true ∧ ∀ y ∈ a, rdyI v y = false
  | [], _, _, h => by simp [fstR] at h
  | y :: l, x, r, h => by
    simp only [fstR] at h
    by_cases e : rdyI v y = true
    · rw [if_pos e] at h
      have h' : y = x ∧ l = r := by simpa using h
      obtain ⟨rfl, rfl⟩ := h'
      exact ⟨[], l, rfl, rfl, e, by simp⟩
    · rw [if_neg e] at h
      cases hf : fstR v l with
      | none => rw [hf] at h; cases h
      | some p =>
        rw [hf] at h
        have h' : p.1 = x ∧ y :: p.2 = r := by simpa using h
        obtain ⟨h1, h2⟩ := h'
        obtain ⟨a, b, e1, e2, e3, e4⟩ := fst_some (x := x) (r := p.2) (by rw [hf, ← h1])
        exact ⟨y :: a, b, by rw [e1]; rfl, by rw [← h2, e2]; rfl, e3, fun z hz => by
          rcases List.mem_cons.1 hz with rfl | hz
          · simpa using e
          · exact e4 z hz⟩
theorem fst_len {v : List (Int × Int)} {l : List It} {x : It} {r : List It} (h : fstR v l = some (x, r)) : l.length = r.length + 1 := by
  obtain ⟨a, b, rfl, rfl, _⟩ := fst_some h
  simp; omega
theorem fst_at {v : List (Int × Int)} : ∀ {l : List It} {i : Nat} {x : It}, l[i]? = some x → rdyI v x = true → (∀ j y, j < i → l[j]? = some y → rdyI v y = false) → fstR v l = some (x, l.take i ++ l.drop (i + 1))
  | [], _, _, h, _, _ => by simp at h
  | y :: l, 0, x, h, hr, _ => by
    have e : y = x := by simpa using h
    subst e
    simp [fstR, hr]
  | y :: l, i + 1, x, h, hr, hb => by
    have h0 := hb 0 y (by omega) (by simp)
    have ih := fst_at (l := l) (i := i) (by simpa using h) hr fun j z hj hz => hb (j + 1) z (by omega) (by simpa using hz)
    simp [fstR, h0, ih]

def takR : Nat → List (Int × Int) → List It → List It × List It × List (Int × Int)
  | 0, v, l => ([], l, v)
  | n + 1, v, l => match fstR v l with
    | none => ([], l, v)
    | some (x, r) => let t := takR n (setOf v x.c (x.k + 1)) r; (x :: t.1, t.2.1, t.2.2)
theorem tak_none {v : List (Int × Int)} {l : List It} (h : fstR v l = none) (n : Nat) : takR n v l = ([], l, v) := by
  cases n with
  | zero => rfl
  | succ n => simp [takR, h]
theorem tak_some {v : List (Int × Int)} {l : List It} {x : It} {r : List It} (h : fstR v l = some (x, r)) (n : Nat) : takR (n + 1) v l = (x :: (takR n (setOf v x.c (x.k + 1)) r).1, (takR n (setOf v x.c (x.k + 1)) r).2.1, (takR n (setOf v x.c (x.k + 1)) r).2.2) := by
  simp [takR, h]

def slotI (x : It) : List It → List It
  | [] => [x]
  | y :: l => if ltI (iid x) (iid y) then x :: y :: l else y :: slotI x l
def sortI : List It → List It → List It
  | o, [] => o
  | o, x :: l => sortI (slotI x o) l
def takeI (v : List (Int × Int)) (l : List It) : List It × List It × List (Int × Int) := takR l.length v (sortI [] l)

theorem slot_perm (x : It) : ∀ l : List It, (slotI x l).Perm (x :: l)
  | [] => .refl _
  | y :: l => by
    simp only [slotI]
    split
    · exact .refl _
    · exact ((slot_perm x l).cons y).trans (.swap x y l)
theorem sort_perm : ∀ l o : List It, (sortI o l).Perm (o ++ l)
  | [], o => by simp [sortI]
  | x :: l, o => by
    rw [sortI]
    refine (sort_perm l (slotI x o)).trans ?_
    refine ((slot_perm x o).append_right l).trans ?_
    exact List.perm_middle.symm
def apartI (l : List It) : Prop := l.Pairwise fun x y => iid x ≠ iid y
theorem apart_perm {l m : List It} (h : l.Perm m) (ha : apartI l) : apartI m := (h.pairwise_iff (fun {_ _} e => Ne.symm e)).1 ha
def riseI (l : List It) : Prop := l.Pairwise fun x y => ltI (iid x) (iid y) = true
theorem slot_rise {x : It} : ∀ {l : List It}, riseI l → (∀ y ∈ l, iid y ≠ iid x) → riseI (slotI x l)
  | [], _, _ => by simp [slotI, riseI]
  | y :: l, h, hn => by
    have h' := List.pairwise_cons.1 h
    simp only [slotI]
    split
    · rename_i g
      refine List.pairwise_cons.2 ⟨fun z hz => ?_, h⟩
      rcases List.mem_cons.1 hz with rfl | hz
      · exact g
      · exact ltI_trans g (h'.1 z hz)
    · rename_i g
      refine List.pairwise_cons.2 ⟨fun z hz => ?_, slot_rise h'.2 fun z hz => hn z (List.mem_cons_of_mem _ hz)⟩
      rcases List.mem_cons.1 ((slot_perm x l).mem_iff.1 hz) with rfl | hz
      · rcases ltI_total (hn y (by simp)) with e | e
        · exact e
        · exact absurd e g
      · exact h'.1 z hz
theorem sort_rise : ∀ {l o : List It}, riseI o → apartI (o ++ l) → riseI (sortI o l)
  | [], o, h, _ => h
  | x :: l, o, h, ha => by
    rw [sortI]
    refine sort_rise (slot_rise h fun y hy e => ?_) (apart_perm ?_ ha)
    · have := (List.pairwise_append.1 ha).2.2 y hy x (by simp)
      exact this e
    · exact List.perm_middle.trans ((slot_perm x o).symm.append_right l)
theorem ltI_not (a : I2) : ¬ ltI a a = true := fun h => by have := ltI_asymm h; rw [h] at this; cases this
theorem rise_ext {l m : List It} (hl : riseI l) (hm : riseI m) (h : ∀ x, x ∈ l ↔ x ∈ m) : l = m :=
  sorted_ext (lt := fun x y => ltI (iid x) (iid y) = true) (fun a => ltI_not _) (fun a b h h' => by rw [ltI_asymm h] at h'; cases h') hl hm h
theorem sort_len (l : List It) : (sortI [] l).length = l.length := by have := (sort_perm l []).length_eq; simpa using this

inductive RunI : List (Int × Int) → List It → List (Int × Int) → Prop
  | nil (v) : RunI v [] v
  | cons {v x r u} : rdyI v x = true → RunI (setOf v x.c (x.k + 1)) r u → RunI v (x :: r) u

def okW (x : It) : Prop := 0 < x.c ∧ x.c ≤ 4294967295 ∧ 0 ≤ x.k ∧ x.k ≤ 4294967294

theorem set_mayW {v : List (Int × Int)} {x : It} (hv : mayFrom 0 v = true) (hx : okW x) : mayFrom 0 (setOf v x.c (x.k + 1)) = true :=
  set_may hv hx.1 (by have := hx.2.2.1; omega)
theorem set_wf : ∀ {l : List (Int × Int)} {c n : Int}, wfC l → 0 ≤ c → c ≤ 4294967295 → 0 ≤ n → n ≤ 4294967295 → wfC (setOf l c n)
  | [], c, n, _, h1, h2, h3, h4 => by
    simp only [setOf]
    split
    · intro p hp; cases hp
    · intro p hp; rcases List.mem_singleton.1 hp with rfl; exact ⟨h1, h2, h3, h4⟩
  | q :: l, c, n, h, h1, h2, h3, h4 => by
    have hq := h q (by simp)
    have hl : wfC l := fun p hp => h p (List.mem_cons_of_mem _ hp)
    have one : ∀ p ∈ (if n = 0 then [] else [(c, n)] : List (Int × Int)), 0 ≤ p.1 ∧ p.1 ≤ 4294967295 ∧ 0 ≤ p.2 ∧ p.2 ≤ 4294967295 := fun p hp => by
      split at hp
      · cases hp
      · rcases List.mem_singleton.1 hp with rfl; exact ⟨h1, h2, h3, h4⟩
    simp only [setOf]
    split
    · intro p hp
      rcases List.mem_cons.1 hp with rfl | hp
      · exact hq
      · exact set_wf hl h1 h2 h3 h4 p hp
    · intro p hp
      rcases List.mem_append.1 hp with hp | hp
      · exact one p hp
      · split at hp
        · exact hl p hp
        · exact h p hp

theorem run_vec : ∀ {r : List It} {v u : List (Int × Int)}, RunI v r u → mayFrom 0 v = true → wfC v → (∀ x ∈ r, okW x) → mayFrom 0 u = true ∧ wfC u ∧ u.length ≤ v.length + r.length
  | [], v, u, h, hv, hw, _ => by cases h; exact ⟨hv, hw, by simp⟩
  | x :: r, v, u, h, hv, hw, ho => by
    have hx := ho x (by simp)
    cases h with
    | cons h1 h2 =>
      obtain ⟨a1, a2, a3⟩ := run_vec h2 (set_mayW hv hx) (set_wf hw (by have := hx.1; omega) hx.2.1 (by have := hx.2.2.1; omega) (by have := hx.2.2.2; omega)) fun y hy => ho y (List.mem_cons_of_mem _ hy)
      have := set_len v x.c (x.k + 1)
      exact ⟨a1, a2, by simp; omega⟩

theorem tak_is : ∀ (n : Nat) (v : List (Int × Int)) (l : List It), l.length ≤ n → RunI v (takR n v l).1 (takR n v l).2.2 ∧ ((takR n v l).1 ++ (takR n v l).2.1).Perm l ∧ (takR n v l).2.1.Sublist l ∧ ∀ x ∈ (takR n v l).2.1, rdyI (takR n v l).2.2 x = false
  | 0, v, l, h => by
    have : l = [] := List.length_eq_zero_iff.1 (by omega)
    subst this
    simp only [takR]
    exact ⟨.nil v, .refl _, .refl _, by simp⟩
  | n + 1, v, l, h => by
    cases hf : fstR v l with
    | none =>
      rw [tak_none hf]
      exact ⟨.nil v, .refl _, .refl _, fst_none.1 hf⟩
    | some p =>
      obtain ⟨x, r⟩ := p
      obtain ⟨a, b, e1, e2, e3, e4⟩ := fst_some hf
      have hlen := fst_len hf
      obtain ⟨i1, i2, i3, i4⟩ := tak_is n (setOf v x.c (x.k + 1)) r (by omega)
      rw [tak_some hf]
      refine ⟨.cons e3 i1, ?_, ?_, i4⟩
      · refine (i2.cons x).trans ?_
        rw [e1, e2]
        exact List.perm_middle.symm
      · refine i3.trans ?_
        rw [e1, e2]
        exact (List.Sublist.refl a).append (List.sublist_cons_self x b)

structure TakeS (v : List (Int × Int)) (l come wait : List It) (u : List (Int × Int)) : Prop where
  run : RunI v come u
  perm : (come ++ wait).Perm l
  rise : riseI wait
  none : ∀ x ∈ wait, rdyI u x = false
theorem take_is {v : List (Int × Int)} {l : List It} (ha : apartI l) : TakeS v l (takeI v l).1 (takeI v l).2.1 (takeI v l).2.2 := by
  obtain ⟨h1, h2, h3, h4⟩ := tak_is l.length v (sortI [] l) (by rw [sort_len]; omega)
  refine ⟨h1, h2.trans (by simpa using sort_perm l []), ?_, h4⟩
  exact List.Pairwise.sublist h3 (sort_rise .nil (by simpa using ha))
end Go.Proofs.Ytdpmhhfpjpdfiaa
