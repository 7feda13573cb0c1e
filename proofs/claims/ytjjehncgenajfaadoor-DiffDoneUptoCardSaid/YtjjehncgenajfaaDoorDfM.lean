/-
  Changes of texts, in plain lists of characters; texts as bytes and back; no memory; no claim stands here.
-/
import Derived.Test.YtjjehncgenajfaaDoorNBack
import Derived.Lib.MapLaws
namespace Go.Proofs.YtjjehncgenajfaaDoor
open Go.Lib
set_option linter.unusedVariables false

/-- how many, from the first on, are alike -/
def cpN : List Nat → List Nat → Nat
  | x :: a, y :: b => if x = y then cpN a b + 1 else 0
  | [], _ => 0
  | _ :: _, [] => 0
theorem cp_nil (a : List Nat) : cpN a [] = 0 := by cases a <;> rfl
theorem cp_le : ∀ a b : List Nat, cpN a b ≤ a.length ∧ cpN a b ≤ b.length
  | [], b => by simp [cpN]
  | x :: a, [] => by simp [cpN]
  | x :: a, y :: b => by
    have := cp_le a b
    simp only [cpN, List.length_cons]
    split <;> omega
theorem cp_comm : ∀ a b : List Nat, cpN a b = cpN b a
  | [], b => by rw [cp_nil]; rfl
  | x :: a, [] => rfl
  | x :: a, y :: b => by
    simp only [cpN]
    by_cases h : x = y
    · rw [if_pos h, if_pos h.symm, cp_comm a b]
    · rw [if_neg h, if_neg (Ne.symm h)]
theorem cp_take : ∀ a b : List Nat, a.take (cpN a b) = b.take (cpN a b)
  | [], b => by simp [cpN]
  | x :: a, [] => by simp [cpN]
  | x :: a, y :: b => by
    simp only [cpN]
    split
    · rename_i h
      rw [List.take_succ_cons, List.take_succ_cons, cp_take a b, h]
    · rfl
theorem cp_ge : ∀ {a b : List Nat} {n : Nat}, n ≤ a.length → n ≤ b.length → a.take n = b.take n → n ≤ cpN a b
  | _, _, 0, _, _, _ => Nat.zero_le _
  | [], _, n + 1, h, _, _ => by simp at h
  | _ :: _, [], n + 1, _, h, _ => by simp at h
  | x :: a, y :: b, n + 1, h1, h2, h3 => by
    rw [List.take_succ_cons, List.take_succ_cons] at h3
    injection h3 with e1 e2
    simp only [cpN]
    rw [if_pos e1]
    have := cp_ge (a := a) (b := b) (n := n) (by simpa using h1) (by simpa using h2) e2
    omega
theorem cp_at {a b : List Nat} {i x y : Nat} (hp : ∀ j, j < i → a[j]? = b[j]?) (ha : a[i]? = some x) (hb : b[i]? = some y) (hne : x ≠ y) : cpN a b = i := by
  induction i generalizing a b with
  | zero =>
    cases a with
    | nil => simp at ha
    | cons p a =>
      cases b with
      | nil => simp at hb
      | cons q b =>
        obtain rfl : p = x := by simpa using ha
        obtain rfl : q = y := by simpa using hb
        simp only [cpN]
        rw [if_neg hne]
  | succ i ih =>
    cases a with
    | nil => simp at ha
    | cons p a =>
      cases b with
      | nil => simp at hb
      | cons q b =>
        have h0 := hp 0 (by omega)
        have e : p = q := by simpa using h0
        simp only [cpN]
        rw [if_pos e, ih (a := a) (b := b) (fun j hj => by have := hp (j + 1) (by omega); simpa using this) (by simpa using ha) (by simpa using hb)]
theorem cp_end {a b : List Nat} {i : Nat} (hp : ∀ j, j < i → a[j]? = b[j]?) (hi : i = min a.length b.length) : cpN a b = i := by
  have h := cp_le a b
  have : a.take i = b.take i := by
    apply List.ext_getElem?
    intro j
    rw [List.getElem?_take, List.getElem?_take]
    split
    · exact hp j (by assumption)
    · rfl
  have := cp_ge (a := a) (b := b) (n := i) (by omega) (by omega) this
  omega

/-- how many behind these are alike, from the last back -/
def csN (a b : List Nat) : Nat := cpN (a.drop (cpN a b)).reverse (b.drop (cpN a b)).reverse
theorem cs_le (a b : List Nat) : cpN a b + csN a b ≤ a.length ∧ cpN a b + csN a b ≤ b.length := by
  have h1 := cp_le a b
  have h2 := cp_le (a.drop (cpN a b)).reverse (b.drop (cpN a b)).reverse
  simp only [List.length_reverse, List.length_drop] at h2
  unfold csN
  omega
theorem cs_comm (a b : List Nat) : csN a b = csN b a := by
  unfold csN
  rw [cp_comm a b, cp_comm (a.drop (cpN b a)).reverse]
theorem rev_take (l : List Nat) (n : Nat) : l.reverse.take n = (l.drop (l.length - n)).reverse := by
  rw [List.take_reverse]
theorem cs_drop (a b : List Nat) : a.drop (a.length - csN a b) = b.drop (b.length - csN a b) := by
  have h := cp_take (a.drop (cpN a b)).reverse (b.drop (cpN a b)).reverse
  have hl := cs_le a b
  rw [rev_take, rev_take] at h
  have h' := List.reverse_inj.1 h
  rw [List.drop_drop, List.drop_drop, List.length_drop, List.length_drop] at h'
  have e1 : cpN a b + (a.length - cpN a b - cpN (a.drop (cpN a b)).reverse (b.drop (cpN a b)).reverse) = a.length - csN a b := by unfold csN at hl ⊢; omega
  have e2 : cpN a b + (b.length - cpN a b - cpN (a.drop (cpN a b)).reverse (b.drop (cpN a b)).reverse) = b.length - csN a b := by unfold csN at hl ⊢; omega
  rwa [e1, e2] at h'

/-- the change from a text to another one: how many characters go; what comes -/
def dfD (a b : List Nat) : Nat := a.length - csN a b - cpN a b
def dfI (a b : List Nat) : List Nat := (b.take (b.length - csN a b)).drop (cpN a b)
/-- a text with a change done -/
def doN (a : List Nat) (at' del : Nat) (ins : List Nat) : List Nat := a.take at' ++ ins ++ a.drop (at' + del)
theorem df_len (a b : List Nat) : (dfI a b).length = b.length - csN a b - cpN a b := by
  unfold dfI
  rw [List.length_drop, List.length_take]
  omega
theorem df_at (a b : List Nat) : cpN a b + dfD a b ≤ a.length := by
  have := cs_le a b
  unfold dfD
  omega
theorem do_of (a b : List Nat) : doN a (cpN a b) (dfD a b) (dfI a b) = b := by
  have hl := cs_le a b
  unfold doN dfI
  rw [cp_take, show cpN a b + dfD a b = a.length - csN a b by unfold dfD; omega, cs_drop]
  have h1 : b.take (cpN a b) = (b.take (b.length - csN a b)).take (cpN a b) := by rw [List.take_take, Nat.min_eq_left (by omega)]
  rw [h1, List.take_append_drop, List.take_append_drop]
theorem df_back (a b : List Nat) : cpN b a = cpN a b ∧ dfD b a = (dfI a b).length := by
  refine ⟨cp_comm b a, ?_⟩
  rw [df_len]
  unfold dfD
  rw [cs_comm b a, cp_comm b a]
theorem df_id (a : List Nat) : cpN a a = a.length := by
  have h := cp_le a a
  have := cp_ge (a := a) (b := a) (n := a.length) (Nat.le_refl _) (Nat.le_refl _) rfl
  omega

/-- the suffix that two texts share is found, but where the prefix has eaten it -/
theorem cs_ge {a b : List Nat} {n : Nat} (h1 : n ≤ a.length) (h2 : n ≤ b.length) (h : a.drop (a.length - n) = b.drop (b.length - n)) : n ≤ csN a b ∨ cpN a b + csN a b = min a.length b.length := by
  have hc := cp_le a b
  have hl := cs_le a b
  rcases Nat.lt_or_ge (csN a b) n with hlt | hge
  · refine .inr ?_
    obtain ⟨m, hm⟩ : ∃ m, m = min n (min a.length b.length - cpN a b) := ⟨_, rfl⟩
    have key : (a.drop (cpN a b)).reverse.take m = (b.drop (cpN a b)).reverse.take m := by
      rw [rev_take, rev_take, List.drop_drop, List.drop_drop, List.length_drop, List.length_drop]
      congr 1
      have e1 : cpN a b + (a.length - cpN a b - m) = (a.length - n) + (n - m) := by omega
      have e2 : cpN a b + (b.length - cpN a b - m) = (b.length - n) + (n - m) := by omega
      rw [e1, e2, ← List.drop_drop, ← List.drop_drop, h]
    have := cp_ge (by simp only [List.length_reverse, List.length_drop]; omega) (by simp only [List.length_reverse, List.length_drop]; omega) key
    unfold csN at hlt hl ⊢
    omega
  · exact .inl hge

/-- of a text with a change done the change is no longer than that one: m is any measure of texts that adds up -/
theorem df_short (m : List Nat → Nat) (hm : ∀ x y, m (x ++ y) = m x + m y) {a : List Nat} {at' del : Nat} (ins : List Nat) (h : at' + del ≤ a.length) :
    dfD a (doN a at' del ins) ≤ del ∧ m (dfI a (doN a at' del ins)) ≤ m ins := by
  obtain ⟨u, hu⟩ : ∃ u, doN a at' del ins = u := ⟨_, rfl⟩
  rw [hu]
  have hul : u.length = at' + ins.length + (a.length - (at' + del)) := by rw [← hu]; unfold doN; simp; omega
  have hp : at' ≤ cpN a u := by
    refine cp_ge (by omega) (by omega) ?_
    rw [← hu]
    unfold doN
    rw [List.append_assoc, List.take_append_of_le_length (by rw [List.length_take]; omega), List.take_take, Nat.min_self]
  obtain ⟨n, hn⟩ : ∃ n, n = a.length - (at' + del) := ⟨_, rfl⟩
  have hsuf : a.drop (a.length - n) = u.drop (u.length - n) := by
    rw [show u.length - n = at' + ins.length by omega, ← hu]
    unfold doN
    rw [List.drop_append_of_le_length (by rw [List.length_append, List.length_take]; omega), List.drop_of_length_le (l := a.take at' ++ ins) (by rw [List.length_append, List.length_take]; omega), List.nil_append]
    congr 1
    omega
  have hs := cs_ge (by omega) (by omega) hsuf
  have hl := cs_le a u
  have hdl := df_len a u
  have ha3 : m a = m (a.take at') + m ((a.drop at').take del) + m (a.drop (at' + del)) := by
    rw [← hm, ← hm]
    congr 1
    rw [← List.drop_drop, List.append_assoc, List.take_append_drop, List.take_append_drop]
  have hu3 : m u = m (a.take at') + m ins + m (a.drop (at' + del)) := by rw [← hu]; unfold doN; rw [hm, hm]
  have hu4 : m u = m (u.take (cpN a u)) + m (dfI a u) + m (u.drop (u.length - csN a u)) := by
    rw [← hm, ← hm]
    congr 1
    unfold dfI
    have h1 : u.take (cpN a u) = (u.take (u.length - csN a u)).take (cpN a u) := by rw [List.take_take, Nat.min_eq_left (by omega)]
    rw [h1, List.take_append_drop, List.take_append_drop]
  have mono : ∀ (x : List Nat) (i j : Nat), i ≤ j → m (x.take i) ≤ m (x.take j) := fun x i j hij => by
    have : x.take j = x.take i ++ (x.take j).drop i := by
      have h1 : x.take i = (x.take j).take i := by rw [List.take_take, Nat.min_eq_left hij]
      rw [h1, List.take_append_drop]
    rw [this, hm]; omega
  have monod : ∀ (x : List Nat) (i j : Nat), i ≤ j → m (x.drop j) ≤ m (x.drop i) := fun x i j hij => by
    have : x.drop i = (x.drop i).take (j - i) ++ x.drop j := by
      have h1 : x.drop j = (x.drop i).drop (j - i) := by rw [List.drop_drop]; congr 1; omega
      rw [h1, List.take_append_drop]
    rw [this, hm]; omega
  rcases hs with hge | heq
  · refine ⟨by unfold dfD; omega, ?_⟩
    have h1 := mono a at' (cpN a u) hp
    rw [cp_take] at h1
    have h2 := monod a (a.length - csN a u) (at' + del) (by omega)
    rw [cs_drop] at h2
    omega
  · rcases Nat.le_total a.length u.length with hle | hle
    · refine ⟨by unfold dfD; omega, ?_⟩
      have e : cpN a u + csN a u = a.length := by omega
      have h1 : m a = m (a.take (cpN a u)) + m (a.drop (a.length - csN a u)) := by
        rw [← hm, show a.length - csN a u = cpN a u by omega, List.take_append_drop]
      rw [cp_take, cs_drop] at h1
      omega
    · refine ⟨by unfold dfD; omega, ?_⟩
      have e : (dfI a u).length = 0 := by omega
      have : dfI a u = [] := List.length_eq_zero_iff.1 e
      have hm0 : m [] = 0 := by have := hm [] []; simp at this; omega
      rw [this, hm0]
      exact Nat.zero_le _

/-- a text's bytes -/
def encU (l : List Nat) : List UInt8 := l.flatMap fun n : Nat => encodeRune (n : Int)
theorem encU_app (x y : List Nat) : encU (x ++ y) = encU x ++ encU y := by simp [encU]
theorem encU_len (l : List Nat) : (encU l).length ≤ 4 * l.length := by
  induction l with
  | nil => simp [encU]
  | cons n l ih =>
    have := enc_len (n : Int)
    have e : encU (n :: l) = encodeRune (n : Int) ++ encU l := by simp [encU]
    rw [e, List.length_append, List.length_cons]
    omega
theorem dec_okC (l : List UInt8) (hne : l ≠ []) : okCh ((decodeL l).1 : Int) := by
  rw [decodeL_N]
  have k0 := (l.getD 0 0).toNat_lt
  have k1 := (l.getD 1 0).toNat_lt
  have k2 := (l.getD 2 0).toNat_lt
  have k3 := (l.getD 3 0).toNat_lt
  unfold okCh
  rcases decodeN_shape l.length (l.getD 0 0).toNat (l.getD 1 0).toNat (l.getD 2 0).toNat (l.getD 3 0).toNat with ⟨c, e⟩ | ⟨c1, c2, c3, cv, e⟩ | ⟨c1, c2, c3, c4, cv, cs, e⟩ | ⟨c1, c2, c3, c4, c5, cv, cw, e⟩ | e
  all_goals rw [e]; dsimp only; omega
theorem runes_okC : ∀ (k : Nat) (l : List UInt8), l.length ≤ k → ∀ n ∈ runesD l, okCh (n : Int)
  | 0, l, h, n, hn => by
    have : l = [] := List.length_eq_zero_iff.1 (by omega)
    subst this
    simp [runesD_nil] at hn
  | k + 1, l, h, n, hn => by
    by_cases hne : l = []
    · subst hne; simp [runesD_nil] at hn
    · rw [runesD_step l hne] at hn
      rcases List.mem_cons.1 hn with rfl | hn
      · exact dec_okC l hne
      · have hpos : 0 < (decodeL l).2 := decodeL_width l
        exact runes_okC k (l.drop (decodeL l).2) (by rw [List.length_drop]; have := List.length_pos_iff.2 hne; omega) n hn
theorem enc_dec : ∀ (k : Nat) (l : List UInt8), l.length ≤ k → validD l = true → encU (runesD l) = l
  | 0, l, h, _ => by
    have : l = [] := List.length_eq_zero_iff.1 (by omega)
    subst this
    rw [runesD_nil]; rfl
  | k + 1, l, h, hv => by
    by_cases hne : l = []
    · subst hne; rw [runesD_nil]; rfl
    · rw [validD_step l hne] at hv
      by_cases hb : (decodeL l).1 = 65533 ∧ (decodeL l).2 = 1
      · rw [if_pos hb] at hv; cases hv
      · rw [if_neg hb] at hv
        have hpos : 0 < (decodeL l).2 := decodeL_width l
        have ih := enc_dec k (l.drop (decodeL l).2) (by rw [List.length_drop]; have := List.length_pos_iff.2 hne; omega) hv
        rw [runesD_step l hne]
        have e : encU ((decodeL l).1 :: runesD (l.drop (decodeL l).2)) = encodeRune ((decodeL l).1 : Int) ++ encU (runesD (l.drop (decodeL l).2)) := by simp [encU]
        rw [e, encode_decode l hne hb, ih, List.take_append_drop]
theorem dec_encU : ∀ {l : List Nat}, (∀ n ∈ l, okCh (n : Int)) → ∀ t, validD (encU l ++ t) = validD t ∧ runesD (encU l ++ t) = l ++ runesD t
  | [], _, t => ⟨rfl, rfl⟩
  | n :: l, h, t => by
    have ih := dec_encU (l := l) (fun x hx => h x (List.mem_cons_of_mem _ hx)) t
    have e : encU (n :: l) = encodeRune (n : Int) ++ encU l := by simp [encU]
    have h1 := enc_on (h n (by simp)) (encU l ++ t)
    rw [e, List.append_assoc]
    exact ⟨h1.1.trans ih.1, by rw [h1.2, ih.2, Int.toNat_natCast]; rfl⟩
theorem dec_enc1 {l : List Nat} (h : ∀ n ∈ l, okCh (n : Int)) : validD (encU l) = true ∧ runesD (encU l) = l := by
  have := dec_encU h []
  rw [List.append_nil, runesD_nil, List.append_nil] at this
  exact this
theorem runes_inj {s t : List UInt8} (hs : validD s = true) (ht : validD t = true) (h : runesD s = runesD t) : s = t := by
  rw [← enc_dec _ s (Nat.le_refl _) hs, ← enc_dec _ t (Nat.le_refl _) ht, h]

end Go.Proofs.YtjjehncgenajfaaDoor
