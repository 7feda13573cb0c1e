/-
  Items that wait, in plain lists: which are ready, which come, and that the same come whatever the order; no memory; no claim stands here.
-/
import Derived.Test.YtdpmhhfpjpdfiaaVMath
import Derived.Test.YtdpmhhfpjpdfiaaTMath
namespace Go.Proofs.Ytdpmhhfpjpdfiaa
set_option linter.unusedVariables false

def rdyI (v : List (Int × Int)) (x : It) : Bool := decide (x.k = nextOf v x.c) && ((decide (x.lc = 0) || decide (x.lk < nextOf v x.lc)) && (decide (x.rc = 0) || decide (x.rk < nextOf v x.rc)))
theorem rdy_iff {v : List (Int × Int)} {x : It} : rdyI v x = true ↔ x.k = nextOf v x.c ∧ (x.lc = 0 ∨ x.lk < nextOf v x.lc) ∧ (x.rc = 0 ∨ x.rk < nextOf v x.rc) := by
  simp [rdyI]

def fstR (v : List (Int × Int)) : List It → Option (It × List It)
  | [] => none
  | x :: l => if rdyI v x then some (x, l) else (fstR v l).map fun p => (p.1, x :: p.2)

theorem fst_none {v : List (Int × Int)} : ∀ {l : List It}, fstR v l = none ↔ ∀ x ∈ l, rdyI v x = false
  | [] => by simp [fstR]
  | x :: l => by
    have ih := fst_none (v := v) (l := l)
    simp only [fstR]
    by_cases h : rdyI v x = true
    · simp [h]
    · simp [h, ih]
theorem fst_some {v : List (Int × Int)} : ∀ {l : List It} {x : It} {r : List It}, fstR v l = some (x, r) → ∃ a b, l = a ++ x :: b ∧ r = a ++ b ∧ rdyI v x = true ∧ ∀ y ∈ a, rdyI v y = false
  | [], _, _, h => by simp [fstR] at h
  | y :: l, x, r, h => by
    simp only [fstR] at h
    by_cases e : rdyI v y = true
    · rw [if_pos e] at h
      have h' : y = x ∧ l = r := by simpa using h
      obtain ⟨rfl, rfl⟩ := h'
      exact ⟨[], l, rfl, rfl, e, by simp⟩
    · rw [if_neg e] at h
      cases hf : fstR v l with
      | none => rw [hf] at h; cases h
      | some p =>
        rw [hf] at h
        have h' : p.1 = x ∧ y :: p.2 = r := by simpa using h
        obtain ⟨h1, h2⟩ := h'
        obtain ⟨a, b, e1, e2, e3, e4⟩ := fst_some (x := x) (r := p.2) (by rw [hf, ← h1])
        exact ⟨y :: a, b, by rw [e1]; rfl, by rw [← h2, e2]; rfl, e3, fun z hz => by
          rcases List.mem_cons.1 hz with rfl | hz
          · simpa using e
          · exact e4 z hz⟩
theorem fst_len {v : List (Int × Int)} {l : List It} {x : It} {r : List It} (h : fstR v l = some (x, r)) : l.length = r.length + 1 := by
  obtain ⟨a, b, rfl, rfl, _⟩ := fst_some h
  simp; omega
def takR : Nat → List (Int × Int) → List It → List It × List It × List (Int × Int)
  | 0, v, l => ([], l, v)
  | n + 1, v, l => match fstR v l with
    | none => ([], l, v)
    | some (x, r) => let t := takR n (setOf v x.c (x.k + 1)) r; (x :: t.1, t.2.1, t.2.2)
theorem tak_none {v : List (Int × Int)} {l : List It} (h : fstR v l = none) (n : Nat) : takR n v l = ([], l, v) := by
  cases n with
  | zero => rfl
  | succ n => simp [takR, h]
theorem tak_some {v : List (Int × Int)} {l : List It} {x : It} {r : List It} (h : fstR v l = some (x, r)) (n : Nat) : takR (n + 1) v l = (x :: (takR n (setOf v x.c (x.k + 1)) r).1, (takR n (setOf v x.c (x.k + 1)) r).2.1, (takR n (setOf v x.c (x.k + 1)) r).2.2) := by
  simp [takR, h]

def slotI (x : It) : List It → List It
  | [] => [x]
  | y :: l => if ltI (iid x) (iid y) then x :: y :: l else y :: slotI x l
def sortI : List It → List It → List It
  | o, [] => o
  | o, x :: l => sortI (slotI x o) l
def takeI (v : List (Int × Int)) (l : List It) : List It × List It × List (Int × Int) := takR l.length v (sortI [] l)

theorem slot_perm (x : It) : ∀ l : List It, (slotI x l).Perm (x :: l)
  | [] => .refl _
  | y :: l => by
    simp only [slotI]
    split
    · exact .refl _
    · exact ((slot_perm x l).cons y).trans (.swap x y l)
theorem sort_perm : ∀ l o : List It, (sortI o l).Perm (o ++ l)
  | [], o => by simp [sortI]
  | x :: l, o => by
    rw [sortI]
    refine (sort_perm l (slotI x o)).trans ?_
    refine ((slot_perm x o).append_right l).trans ?_
    exact List.perm_middle.symm
def apartI (l : List It) : Prop := l.Pairwise fun x y => iid x ≠ iid y
theorem apart_perm {l m : List It} (h : l.Perm m) (ha : apartI l) : apartI m := (h.pairwise_iff (fun {_ _} e => Ne.symm e)).1 ha
theorem apart_mem : ∀ {l : List It}, apartI l → ∀ {x y : It}, x ∈ l → y ∈ l → iid x = iid y → x = y
  | [], _, _, _, h, _, _ => by cases h
  | z :: l, ha, x, y, hx, hy, e => by
    have ha' := List.pairwise_cons.1 ha
    rcases List.mem_cons.1 hx with hx1 | hx1
    · rcases List.mem_cons.1 hy with hy1 | hy1
      · rw [hx1, hy1]
      · exact absurd (hx1 ▸ e) (ha'.1 y hy1)
    · rcases List.mem_cons.1 hy with hy1 | hy1
      · exact absurd (hy1 ▸ e.symm) (ha'.1 x hx1)
      · exact apart_mem ha'.2 hx1 hy1 e
theorem apart_nodup {l : List It} (h : apartI l) : l.Nodup := List.Pairwise.imp (fun e e' => e (by rw [e'])) h

def riseI (l : List It) : Prop := l.Pairwise fun x y => ltI (iid x) (iid y) = true
theorem slot_rise {x : It} : ∀ {l : List It}, riseI l → (∀ y ∈ l, iid y ≠ iid x) → riseI (slotI x l)
  | [], _, _ => by simp [slotI, riseI]
  | y :: l, h, hn => by
    have h' := List.pairwise_cons.1 h
    simp only [slotI]
    split
    · rename_i g
      refine List.pairwise_cons.2 ⟨fun z hz => ?_, h⟩
      rcases List.mem_cons.1 hz with rfl | hz
      · exact g
      · exact ltI_trans g (h'.1 z hz)
    · rename_i g
      refine List.pairwise_cons.2 ⟨fun z hz => ?_, slot_rise h'.2 fun z hz => hn z (List.mem_cons_of_mem _ hz)⟩
      rcases List.mem_cons.1 ((slot_perm x l).mem_iff.1 hz) with rfl | hz
      · rcases ltI_total (hn y (by simp)) with e | e
        · exact e
        · exact absurd e g
      · exact h'.1 z hz
theorem sort_rise : ∀ {l o : List It}, riseI o → apartI (o ++ l) → riseI (sortI o l)
  | [], o, h, _ => h
  | x :: l, o, h, ha => by
    rw [sortI]
    refine sort_rise (slot_rise h fun y hy e => ?_) (apart_perm ?_ ha)
    · have := (List.pairwise_append.1 ha).2.2 y hy x (by simp)
      exact this e
    · exact List.perm_middle.trans ((slot_perm x o).symm.append_right l)
theorem ltI_not (a : I2) : ¬ ltI a a = true := fun h => by have := ltI_asymm h; rw [h] at this; cases this
theorem rise_ext {l m : List It} (hl : riseI l) (hm : riseI m) (h : ∀ x, x ∈ l ↔ x ∈ m) : l = m :=
  sorted_ext (lt := fun x y => ltI (iid x) (iid y) = true) (fun a => ltI_not _) (fun a b h h' => by rw [ltI_asymm h] at h'; cases h') hl hm h
theorem sort_same {l m : List It} (ha : apartI l) (h : l.Perm m) : sortI [] l = sortI [] m :=
  rise_ext (sort_rise .nil (by simpa using ha)) (sort_rise .nil (by simpa using apart_perm h ha)) fun x => by
    rw [(sort_perm l []).mem_iff, (sort_perm m []).mem_iff]; simpa using h.mem_iff
theorem sort_len (l : List It) : (sortI [] l).length = l.length := by have := (sort_perm l []).length_eq; simpa using this

inductive RunI : List (Int × Int) → List It → List (Int × Int) → Prop
  | nil (v) : RunI v [] v
  | cons {v x r u} : rdyI v x = true → RunI (setOf v x.c (x.k + 1)) r u → RunI v (x :: r) u

def okW (x : It) : Prop := 0 < x.c ∧ x.c ≤ 4294967295 ∧ 0 ≤ x.k ∧ x.k ≤ 4294967294

theorem set_mayW {v : List (Int × Int)} {x : It} (hv : mayFrom 0 v = true) (hx : okW x) : mayFrom 0 (setOf v x.c (x.k + 1)) = true :=
  set_may hv hx.1 (by have := hx.2.2.1; omega)
theorem set_wf : ∀ {l : List (Int × Int)} {c n : Int}, wfC l → 0 ≤ c → c ≤ 4294967295 → 0 ≤ n → n ≤ 4294967295 → wfC (setOf l c n)
  | [], c, n, _, h1, h2, h3, h4 => by
    simp only [setOf]
    split
    · intro p hp; cases hp
    · intro p hp; rcases List.mem_singleton.1 hp with rfl; exact ⟨h1, h2, h3, h4⟩
  | q :: l, c, n, h, h1, h2, h3, h4 => by
    have hq := h q (by simp)
    have hl : wfC l := fun p hp => h p (List.mem_cons_of_mem _ hp)
    have one : ∀ p ∈ (if n = 0 then [] else [(c, n)] : List (Int × Int)), 0 ≤ p.1 ∧ p.1 ≤ 4294967295 ∧ 0 ≤ p.2 ∧ p.2 ≤ 4294967295 := fun p hp => by
      split at hp
      · cases hp
      · rcases List.mem_singleton.1 hp with rfl; exact ⟨h1, h2, h3, h4⟩
    simp only [setOf]
    split
    · intro p hp
      rcases List.mem_cons.1 hp with rfl | hp
      · exact hq
      · exact set_wf hl h1 h2 h3 h4 p hp
    · intro p hp
      rcases List.mem_append.1 hp with hp | hp
      · exact one p hp
      · split at hp
        · exact hl p hp
        · exact h p hp

theorem run_vec : ∀ {r : List It} {v u : List (Int × Int)}, RunI v r u → mayFrom 0 v = true → wfC v → (∀ x ∈ r, okW x) → mayFrom 0 u = true ∧ wfC u ∧ u.length ≤ v.length + r.length
  | [], v, u, h, hv, hw, _ => by cases h; exact ⟨hv, hw, by simp⟩
  | x :: r, v, u, h, hv, hw, ho => by
    have hx := ho x (by simp)
    cases h with
    | cons h1 h2 =>
      obtain ⟨a1, a2, a3⟩ := run_vec h2 (set_mayW hv hx) (set_wf hw (by have := hx.1; omega) hx.2.1 (by have := hx.2.2.1; omega) (by have := hx.2.2.2; omega)) fun y hy => ho y (List.mem_cons_of_mem _ hy)
      have := set_len v x.c (x.k + 1)
      exact ⟨a1, a2, by simp; omega⟩

theorem run_next : ∀ {r : List It} {v u : List (Int × Int)}, RunI v r u → mayFrom 0 v = true → (∀ x ∈ r, okW x) → (∀ c, nextOf v c ≤ nextOf u c) ∧ ∀ c k, (nextOf v c ≤ k ∧ k < nextOf u c) ↔ ∃ x ∈ r, x.c = c ∧ x.k = k
  | [], v, u, h, hv, _ => by cases h; exact ⟨fun c => Int.le_refl _, fun c k => ⟨fun h => absurd h (by omega), fun ⟨x, hx, _⟩ => by cases hx⟩⟩
  | x :: r, v, u, h, hv, ho => by
    have hx := ho x (by simp)
    cases h with
    | cons h1 h2 =>
      have hk := (rdy_iff.1 h1).1
      obtain ⟨a1, a2⟩ := run_next h2 (set_mayW hv hx) fun y hy => ho y (List.mem_cons_of_mem _ hy)
      have hs := fun d => set_next x.c (x.k + 1) d hv
      refine ⟨fun c => ?_, fun c k => ?_⟩
      · have := a1 c
        rw [hs] at this
        by_cases hc : c = x.c
        · rw [if_pos hc] at this; rw [hc] at this ⊢; omega
        · rw [if_neg hc] at this; exact this
      · have b1 := a1 c
        have b2 := a2 c k
        rw [hs] at b1 b2
        by_cases hc : c = x.c
        · rw [if_pos hc] at b1 b2
          subst hc
          constructor
          · rintro ⟨g1, g2⟩
            by_cases hkk : k = x.k
            · exact ⟨x, by simp, rfl, hkk.symm⟩
            · obtain ⟨y, hy, e⟩ := b2.1 ⟨by omega, g2⟩
              exact ⟨y, List.mem_cons_of_mem _ hy, e⟩
          · rintro ⟨y, hy, e1, e2⟩
            rcases List.mem_cons.1 hy with rfl | hy
            · omega
            · have := b2.2 ⟨y, hy, e1, e2⟩; omega
        · rw [if_neg hc] at b1 b2
          rw [b2]
          constructor
          · rintro ⟨y, hy, e⟩; exact ⟨y, List.mem_cons_of_mem _ hy, e⟩
          · rintro ⟨y, hy, e1, e2⟩
            rcases List.mem_cons.1 hy with rfl | hy
            · exact absurd e1.symm hc
            · exact ⟨y, hy, e1, e2⟩

theorem run_snoc {r : List It} {v u : List (Int × Int)} {x : It} (h : RunI v r u) (hx : rdyI u x = true) : RunI v (r ++ [x]) (setOf u x.c (x.k + 1)) := by
  induction h with
  | nil v => exact .cons hx (.nil _)
  | cons h1 _ ih => exact .cons h1 (ih hx)
theorem run_app {r s : List It} {v u t : List (Int × Int)} (h : RunI v r u) (h' : RunI u s t) : RunI v (r ++ s) t := by
  induction h with
  | nil v => exact h'
  | cons h1 _ ih => exact .cons h1 (ih h')

theorem run_sub {S : List It} {v u' : List (Int × Int)} {r' : List It} (hS : apartI S) (hv : mayFrom 0 v = true) (ho : ∀ x ∈ S, okW x) (hc : ∀ x ∈ S, nextOf v x.c ≤ x.k)
    (h' : RunI v r' u') (hr' : ∀ x ∈ r', x ∈ S) (hmax : ∀ x ∈ S, x ∉ r' → rdyI u' x = false) :
    ∀ (r p : List It) (cur u : List (Int × Int)), RunI v p cur → RunI cur r u → (∀ x ∈ p, x ∈ r') → (∀ x ∈ r, x ∈ S) → ∀ x ∈ r, x ∈ r'
  | [], _, _, _, _, _, _, _ => by simp
  | x :: r, p, cur, u, hp, hr, hpr, hrS => by
    cases hr with
    | cons h1 h2 =>
      obtain ⟨n1, n2⟩ := run_next h' hv fun y hy => ho y (hr' y hy)
      obtain ⟨m1, m2⟩ := run_next hp hv fun y hy => ho y (hr' y (hpr y hy))
      have le : ∀ c, nextOf cur c ≤ nextOf u' c := fun c => by
        apply Int.not_lt.1
        intro hlt
        obtain ⟨y, hy, e1, e2⟩ := (m2 c (nextOf u' c)).1 ⟨n1 c, hlt⟩
        have := (n2 c (nextOf u' c)).2 ⟨y, hpr y hy, e1, e2⟩
        omega
      have hxS := hrS x (by simp)
      have hx : x ∈ r' := by
        apply Classical.byContradiction
        intro hn
        obtain ⟨q1, q2, q3⟩ := rdy_iff.1 h1
        have q1' : x.k = nextOf u' x.c := by
          apply Classical.byContradiction
          intro hne
          have := le x.c
          obtain ⟨y, hy, e1, e2⟩ := (n2 x.c x.k).1 ⟨hc x hxS, by omega⟩
          have : y = x := apart_mem hS (hr' y hy) hxS (by unfold iid; rw [e1, e2])
          rw [this] at hy
          exact hn hy
        have : rdyI u' x = true := rdy_iff.2 ⟨q1', q2.imp id fun q => by have := le x.lc; omega, q3.imp id fun q => by have := le x.rc; omega⟩
        rw [hmax x hxS hn] at this
        cases this
      have ih := run_sub hS hv ho hc h' hr' hmax r (p ++ [x]) _ u (run_snoc hp h1) h2 (fun y hy => by
        rcases List.mem_append.1 hy with hy | hy
        · exact hpr y hy
        · rcases List.mem_singleton.1 hy with rfl; exact hx) fun y hy => hrS y (List.mem_cons_of_mem _ hy)
      intro y hy
      rcases List.mem_cons.1 hy with rfl | hy
      · exact hx
      · exact ih y hy

theorem run_same {S : List It} {v u u' : List (Int × Int)} {r r' : List It} (hS : apartI S) (hv : mayFrom 0 v = true) (ho : ∀ x ∈ S, okW x) (hc : ∀ x ∈ S, nextOf v x.c ≤ x.k)
    (h : RunI v r u) (hr : ∀ x ∈ r, x ∈ S) (hmax : ∀ x ∈ S, x ∉ r → rdyI u x = false)
    (h' : RunI v r' u') (hr' : ∀ x ∈ r', x ∈ S) (hmax' : ∀ x ∈ S, x ∉ r' → rdyI u' x = false) : (∀ x, x ∈ r ↔ x ∈ r') ∧ (wfC v → u = u') := by
  have e : ∀ x, x ∈ r ↔ x ∈ r' := fun x => ⟨run_sub hS hv ho hc h' hr' hmax' r [] v u (.nil v) h (by simp) hr x, run_sub hS hv ho hc h hr hmax r' [] v u' (.nil v) h' (by simp) hr' x⟩
  refine ⟨e, fun hw => ?_⟩
  have ok := fun y hy => ho y (hr y hy)
  have ok' := fun y hy => ho y (hr' y hy)
  obtain ⟨n1, n2⟩ := run_next h hv ok
  obtain ⟨m1, m2⟩ := run_next h' hv ok'
  refine next_ext (run_vec h hv hw ok).1 (run_vec h' hv hw ok').1 fun c => ?_
  rcases Int.lt_trichotomy (nextOf u c) (nextOf u' c) with g | g | g
  · obtain ⟨y, hy, e1, e2⟩ := (m2 c (nextOf u c)).1 ⟨n1 c, g⟩
    have := (n2 c (nextOf u c)).2 ⟨y, (e y).2 hy, e1, e2⟩
    omega
  · exact g
  · obtain ⟨y, hy, e1, e2⟩ := (n2 c (nextOf u' c)).1 ⟨m1 c, g⟩
    have := (m2 c (nextOf u' c)).2 ⟨y, (e y).1 hy, e1, e2⟩
    omega

theorem tak_is : ∀ (n : Nat) (v : List (Int × Int)) (l : List It), l.length ≤ n → RunI v (takR n v l).1 (takR n v l).2.2 ∧ ((takR n v l).1 ++ (takR n v l).2.1).Perm l ∧ (takR n v l).2.1.Sublist l ∧ ∀ x ∈ (takR n v l).2.1, rdyI (takR n v l).2.2 x = false
  | 0, v, l, h => by
    have : l = [] := List.length_eq_zero_iff.1 (by omega)
    subst this
    simp only [takR]
    exact ⟨.nil v, .refl _, .refl _, by simp⟩
  | n + 1, v, l, h => by
    cases hf : fstR v l with
    | none =>
      rw [tak_none hf]
      exact ⟨.nil v, .refl _, .refl _, fst_none.1 hf⟩
    | some p =>
      obtain ⟨x, r⟩ := p
      obtain ⟨a, b, e1, e2, e3, e4⟩ := fst_some hf
      have hlen := fst_len hf
      obtain ⟨i1, i2, i3, i4⟩ := tak_is n (setOf v x.c (x.k + 1)) r (by omega)
      rw [tak_some hf]
      refine ⟨.cons e3 i1, ?_, ?_, i4⟩
      · refine (i2.cons x).trans ?_
        rw [e1, e2]
        exact List.perm_middle.symm
      · refine i3.trans ?_
        rw [e1, e2]
        exact (List.Sublist.refl a).append (List.sublist_cons_self x b)

structure TakeS (v : List (Int × Int)) (l come wait : List It) (u : List (Int × Int)) : Prop where
  run : RunI v come u
  perm : (come ++ wait).Perm l
  rise : riseI wait
  none : ∀ x ∈ wait, rdyI u x = false
theorem take_is {v : List (Int × Int)} {l : List It} (ha : apartI l) : TakeS v l (takeI v l).1 (takeI v l).2.1 (takeI v l).2.2 := by
  obtain ⟨h1, h2, h3, h4⟩ := tak_is l.length v (sortI [] l) (by rw [sort_len]; omega)
  refine ⟨h1, h2.trans (by simpa using sort_perm l []), ?_, h4⟩
  exact List.Pairwise.sublist h3 (sort_rise .nil (by simpa using ha))
theorem take_same {v : List (Int × Int)} {l m : List It} (ha : apartI l) (h : l.Perm m) : takeI v l = takeI v m := by
  unfold takeI
  rw [sort_same ha h, h.length_eq]

theorem wait_not {v u : List (Int × Int)} {l come wait : List It} (ha : apartI l) (hv : mayFrom 0 v = true) (ho : ∀ x ∈ l, okW x) (hc : ∀ x ∈ l, nextOf v x.c ≤ x.k) (h : RunI v come u) (hs : ∀ x ∈ come, x ∈ l) :
    ∀ x ∈ l, x ∉ come → nextOf u x.c ≤ x.k := fun x hx hn => by
  obtain ⟨n1, n2⟩ := run_next h hv fun y hy => ho y (hs y hy)
  apply Int.not_lt.1
  intro hlt
  obtain ⟨y, hy, e1, e2⟩ := (n2 x.c x.k).1 ⟨hc x hx, hlt⟩
  have : y = x := apart_mem ha (hs y hy) hx (by unfold iid; rw [e1, e2])
  rw [this] at hy
  exact hn hy

theorem take_two {v : List (Int × Int)} {l : List It} {k : Nat} (ha : apartI l) (hv : mayFrom 0 v = true) (hw : wfC v) (ho : ∀ x ∈ l, okW x) (hc : ∀ x ∈ l, nextOf v x.c ≤ x.k) :
    apartI ((takeI v (l.take k)).2.1 ++ l.drop k) ∧ (∀ x ∈ (takeI v (l.take k)).2.1 ++ l.drop k, x ∈ l ∧ nextOf (takeI v (l.take k)).2.2 x.c ≤ x.k) ∧
    (takeI v (l.take k)).1.length + (takeI (takeI v (l.take k)).2.2 ((takeI v (l.take k)).2.1 ++ l.drop k)).1.length = (takeI v l).1.length ∧
    (takeI (takeI v (l.take k)).2.2 ((takeI v (l.take k)).2.1 ++ l.drop k)).2.1 = (takeI v l).2.1 ∧
    (takeI (takeI v (l.take k)).2.2 ((takeI v (l.take k)).2.1 ++ l.drop k)).2.2 = (takeI v l).2.2 := by
  have ha1 : apartI (l.take k) := List.Pairwise.sublist (List.take_sublist _ _) ha
  have t1 := take_is (v := v) ha1
  have t := take_is (v := v) ha
  generalize hc0 : (takeI v (l.take k)).1 = c at *
  generalize hd0 : (takeI v (l.take k)).2.1 = d at *
  generalize hu0 : (takeI v (l.take k)).2.2 = u at *
  generalize hr0 : (takeI v l).1 = r at *
  generalize hw0 : (takeI v l).2.1 = wt at *
  generalize hz0 : (takeI v l).2.2 = z at *
  have p1 : (c ++ (d ++ l.drop k)).Perm l := by
    rw [← List.append_assoc]
    refine (t1.perm.append_right (l.drop k)).trans ?_
    rw [List.take_append_drop]
  have ha2' : apartI (c ++ (d ++ l.drop k)) := apart_perm p1.symm ha
  have ha2 : apartI (d ++ l.drop k) := List.Pairwise.sublist (List.sublist_append_right _ _) ha2'
  have t2 := take_is (v := u) ha2
  generalize he0 : (takeI u (d ++ l.drop k)).1 = e at *
  generalize hf0 : (takeI u (d ++ l.drop k)).2.1 = f at *
  generalize hq0 : (takeI u (d ++ l.drop k)).2.2 = q at *
  have hcl : ∀ x ∈ c, x ∈ l := fun x hx => p1.mem_iff.1 (List.mem_append_left _ hx)
  have hdl : ∀ x ∈ d ++ l.drop k, x ∈ l := fun x hx => p1.mem_iff.1 (List.mem_append_right _ hx)
  have hnc : ∀ x ∈ d ++ l.drop k, x ∉ c := fun x hx hx' => (List.pairwise_append.1 ha2').2.2 x hx' x hx rfl
  have hrl : ∀ x ∈ r, x ∈ l := fun x hx => t.perm.mem_iff.1 (List.mem_append_left _ hx)
  have hwl : ∀ x ∈ wt, x ∈ l := fun x hx => t.perm.mem_iff.1 (List.mem_append_right _ hx)
  have p2 : ((c ++ e) ++ f).Perm l := by
    rw [List.append_assoc]
    exact (t2.perm.append_left c).trans p1
  have hcel : ∀ x ∈ c ++ e, x ∈ l := fun x hx => p2.mem_iff.1 (List.mem_append_left _ hx)
  have s := run_same ha hv ho hc (run_app t1.run t2.run) hcel (fun x hx hn => by
    rcases List.mem_append.1 (p2.mem_iff.2 hx) with h | h
    · exact absurd h hn
    · exact t2.none x h) t.run hrl (fun x hx hn => by
    rcases List.mem_append.1 (t.perm.mem_iff.2 hx) with h | h
    · exact absurd h hn
    · exact t.none x h)
  have nd1 : ((c ++ e) ++ f).Nodup := apart_nodup (apart_perm p2.symm ha)
  have nd2 : (r ++ wt).Nodup := apart_nodup (apart_perm t.perm.symm ha)
  have fw : f = wt := rise_ext t2.rise t.rise fun x => by
    constructor
    · intro hx
      have hxl : x ∈ l := p2.mem_iff.1 (List.mem_append_right _ hx)
      rcases List.mem_append.1 (t.perm.mem_iff.2 hxl) with h | h
      · exact absurd rfl ((List.nodup_append.1 nd1).2.2 x ((s.1 x).2 h) x hx)
      · exact h
    · intro hx
      rcases List.mem_append.1 (p2.mem_iff.2 (hwl x hx)) with h | h
      · exact absurd rfl ((List.nodup_append.1 nd2).2.2 x ((s.1 x).1 h) x hx)
      · exact h
  refine ⟨ha2, fun x hx => ⟨hdl x hx, wait_not (wait := []) ha hv ho hc t1.run hcl x (hdl x hx) (hnc x hx)⟩, ?_, fw, s.2 hw⟩
  have l1 := p2.length_eq
  have l2 := t.perm.length_eq
  simp at l1 l2
  rw [fw] at l1
  omega

end Go.Proofs.Ytdpmhhfpjpdfiaa
