/-
  Characters of texts, in plain lists: no memory; no claim stands here.
-/
import Derived.Lib.ValidLaws
namespace Go.Proofs.Ytfcoidpkhggnpaa
open Go.Lib
set_option linter.unusedVariables false

/-- the characters of bytes, one behind the other -/
def runesGo : Nat → List UInt8 → List Nat
  | 0, _ => []
  | n + 1, l => if l = [] then [] else (decodeL l).1 :: runesGo n (l.drop (decodeL l).2)
def runesD (l : List UInt8) : List Nat := runesGo l.length l
theorem runesGo_nil : ∀ n, runesGo n [] = []
  | 0 => rfl
  | _ + 1 => by simp [runesGo]
theorem runesGo_fuel : ∀ (n m : Nat) (l : List UInt8), l.length ≤ n → l.length ≤ m → runesGo n l = runesGo m l
  | 0, m, l, hn, _ => by
    obtain rfl : l = [] := List.eq_nil_of_length_eq_zero (by omega)
    rw [runesGo_nil, runesGo_nil]
  | n + 1, 0, l, _, hm => by
    obtain rfl : l = [] := List.eq_nil_of_length_eq_zero (by omega)
    rw [runesGo_nil, runesGo_nil]
  | n + 1, m + 1, l, hn, hm => by
    unfold runesGo
    by_cases hne : l = []
    · simp [hne]
    · have hw := decodeL_width l
      have hl : 0 < l.length := List.length_pos_iff.2 hne
      rw [if_neg hne, if_neg hne, runesGo_fuel n m (l.drop (decodeL l).2) (by rw [List.length_drop]; omega) (by rw [List.length_drop]; omega)]
theorem runesD_nil : runesD [] = [] := rfl
theorem runesD_step (l : List UInt8) (hne : l ≠ []) : runesD l = (decodeL l).1 :: runesD (l.drop (decodeL l).2) := by
  have hl : 0 < l.length := List.length_pos_iff.2 hne
  have hw := decodeL_width l
  obtain ⟨n, hn⟩ : ∃ n, l.length = n + 1 := ⟨l.length - 1, by omega⟩
  unfold runesD
  rw [hn]
  show (if l = [] then [] else _) = _
  rw [if_neg hne, runesGo_fuel n (l.drop (decodeL l).2).length _ (by rw [List.length_drop]; omega) (Nat.le_refl _)]

/-- a byte of the rest of a text -/
def bt (l : List UInt8) (i k : Nat) : Nat := (l.getD (i + k) 0).toNat
theorem bt_lt (l : List UInt8) (i k : Nat) : bt l i k < 256 := (l.getD (i + k) 0).toNat_lt
theorem dec_at (l : List UInt8) (i : Nat) : decodeL (l.drop i) = decodeN (l.length - i) (bt l i 0) (bt l i 1) (bt l i 2) (bt l i 3) := by
  rw [decodeL_N, List.length_drop, getD_dropU, getD_dropU, getD_dropU, getD_dropU]; rfl

/-- the number that the bytes behind the first one add up to -/
def contV (v0 : Nat) (l : List UInt8) (i : Nat) : Nat → Nat
  | 0 => v0
  | j + 1 => 64 * contV v0 l i j + bt l i (j + 1) - 128
def contOk (l : List UInt8) (i k : Nat) : Prop := ∀ j, 1 ≤ j → j ≤ k → 128 ≤ bt l i j ∧ bt l i j ≤ 191

set_option maxRecDepth 100000 in
set_option maxHeartbeats 4000000 in
theorem dec2 (m b0 b1 b2 b3 : Nat) (h : 192 ≤ b0) (h' : b0 < 224) (h1 : b1 < 256) :
    decodeN m b0 b1 b2 b3 = if m < 2 ∨ b1 < 128 ∨ 191 < b1 ∨ 64 * (b0 - 192) + b1 - 128 < 128 then (65533, 1) else (64 * (b0 - 192) + b1 - 128, 2) := by
  unfold decodeN
  repeat' split
  all_goals first | rfl | (exfalso; omega) | (apply Prod.ext <;> simp only <;> omega)
set_option maxRecDepth 100000 in
set_option maxHeartbeats 4000000 in
theorem dec3 (m b0 b1 b2 b3 : Nat) (h : 224 ≤ b0) (h' : b0 < 240) (h1 : b1 < 256) (h2 : b2 < 256) :
    decodeN m b0 b1 b2 b3 = if m < 3 ∨ b1 < 128 ∨ 191 < b1 ∨ b2 < 128 ∨ 191 < b2 ∨ 64 * (64 * (b0 - 224) + b1 - 128) + b2 - 128 < 2048 ∨ (55296 ≤ 64 * (64 * (b0 - 224) + b1 - 128) + b2 - 128 ∧ 64 * (64 * (b0 - 224) + b1 - 128) + b2 - 128 ≤ 57343)
      then (65533, 1) else (64 * (64 * (b0 - 224) + b1 - 128) + b2 - 128, 3) := by
  unfold decodeN
  repeat' split
  all_goals first | rfl | (exfalso; omega) | (apply Prod.ext <;> simp only <;> omega)
set_option maxRecDepth 100000 in
set_option maxHeartbeats 4000000 in
theorem dec4 (m b0 b1 b2 b3 : Nat) (h : 240 ≤ b0) (h' : b0 < 248) (h1 : b1 < 256) (h2 : b2 < 256) (h3 : b3 < 256) :
    decodeN m b0 b1 b2 b3 = if m < 4 ∨ b1 < 128 ∨ 191 < b1 ∨ b2 < 128 ∨ 191 < b2 ∨ b3 < 128 ∨ 191 < b3 ∨ 64 * (64 * (64 * (b0 - 240) + b1 - 128) + b2 - 128) + b3 - 128 < 65536 ∨ 1114111 < 64 * (64 * (64 * (b0 - 240) + b1 - 128) + b2 - 128) + b3 - 128
      then (65533, 1) else (64 * (64 * (64 * (b0 - 240) + b1 - 128) + b2 - 128) + b3 - 128, 4) := by
  unfold decodeN
  repeat' split
  all_goals first | rfl | (exfalso; omega) | (apply Prod.ext <;> simp only <;> omega)

/-- a kind of first byte: how many bytes, what it counts for, the least number that has so many -/
def lead (b n v0 least : Nat) : Prop :=
  (n = 1 ∧ b < 128 ∧ v0 = b ∧ least = 0) ∨ (n = 2 ∧ 192 ≤ b ∧ b < 224 ∧ v0 = b - 192 ∧ least = 128) ∨ (n = 3 ∧ 224 ≤ b ∧ b < 240 ∧ v0 = b - 224 ∧ least = 2048) ∨ (n = 4 ∧ 240 ≤ b ∧ b < 248 ∧ v0 = b - 240 ∧ least = 65536)
def badV (v least : Nat) : Prop := v < least ∨ 1114111 < v ∨ (55296 ≤ v ∧ v ≤ 57343)

theorem lead_none {l : List UInt8} {i : Nat} (h : (128 ≤ bt l i 0 ∧ bt l i 0 < 192) ∨ 248 ≤ bt l i 0) : decodeL (l.drop i) = (65533, 1) := by
  have := bt_lt l i 0
  rw [dec_at]
  exact decodeN_bad _ _ _ _ _ (by omega)
theorem lead_short {l : List UInt8} {i n v0 least : Nat} (h : lead (bt l i 0) n v0 least) (hi : i < l.length) (hs : l.length < i + n) : decodeL (l.drop i) = (65533, 1) := by
  have g1 := bt_lt l i 1
  have g2 := bt_lt l i 2
  have g3 := bt_lt l i 3
  rw [dec_at]
  rcases h with ⟨rfl, h1, _⟩ | ⟨rfl, h1, h2, _⟩ | ⟨rfl, h1, h2, _⟩ | ⟨rfl, h1, h2, _⟩
  · omega
  · rw [dec2 _ _ _ _ _ h1 h2 g1, if_pos (by omega)]
  · rw [dec3 _ _ _ _ _ h1 h2 g1 g2, if_pos (by omega)]
  · rw [dec4 _ _ _ _ _ h1 h2 g1 g2 g3, if_pos (by omega)]
theorem lead_cont {l : List UInt8} {i n v0 least k : Nat} (h : lead (bt l i 0) n v0 least) (h1k : 1 ≤ k) (hk : k < n) (hb : bt l i k < 128 ∨ 191 < bt l i k) : decodeL (l.drop i) = (65533, 1) := by
  have g1 := bt_lt l i 1
  have g2 := bt_lt l i 2
  have g3 := bt_lt l i 3
  rw [dec_at]
  rcases h with ⟨rfl, h1, _⟩ | ⟨rfl, h1, h2, _⟩ | ⟨rfl, h1, h2, _⟩ | ⟨rfl, h1, h2, _⟩
  · omega
  · obtain rfl : k = 1 := by omega
    rw [dec2 _ _ _ _ _ h1 h2 g1, if_pos (by omega)]
  · have : k = 1 ∨ k = 2 := by omega
    rcases this with rfl | rfl
    all_goals rw [dec3 _ _ _ _ _ h1 h2 g1 g2, if_pos (by omega)]
  · have : k = 1 ∨ k = 2 ∨ k = 3 := by omega
    rcases this with rfl | rfl | rfl
    all_goals rw [dec4 _ _ _ _ _ h1 h2 g1 g2 g3, if_pos (by omega)]
theorem dec1 (m b0 b1 b2 b3 : Nat) (h : b0 < 128) : decodeN m b0 b1 b2 b3 = (b0, 1) := by unfold decodeN; rw [if_pos h]
theorem lead_val {l : List UInt8} {i n v0 least : Nat} (h : lead (bt l i 0) n v0 least) (hc : contOk l i (n - 1)) (hs : i + n ≤ l.length) :
    (badV (contV v0 l i (n - 1)) least ∧ decodeL (l.drop i) = (65533, 1)) ∨ (¬ badV (contV v0 l i (n - 1)) least ∧ decodeL (l.drop i) = (contV v0 l i (n - 1), n)) := by
  have g1 := bt_lt l i 1
  have g2 := bt_lt l i 2
  have g3 := bt_lt l i 3
  rw [dec_at]
  rcases h with ⟨hn, h1, e, hl⟩ | ⟨hn, h1, h2, e, hl⟩ | ⟨hn, h1, h2, e, hl⟩ | ⟨hn, h1, h2, e, hl⟩
  all_goals subst hn; rw [hl, e]
  · right
    rw [dec1 _ _ _ _ _ h1]
    have e0 : contV (bt l i 0) l i (1 - 1) = bt l i 0 := rfl
    rw [e0]
    generalize bt l i 0 = x at *
    exact ⟨by unfold badV; omega, rfl⟩
  · have c1 := hc 1 (by omega) (by omega)
    rw [dec2 _ _ _ _ _ h1 h2 g1]
    show (badV (64 * (bt l i 0 - 192) + bt l i 1 - 128) _ ∧ _) ∨ (¬ badV (64 * (bt l i 0 - 192) + bt l i 1 - 128) _ ∧ _ = (64 * (bt l i 0 - 192) + bt l i 1 - 128, _))
    have hx : 64 * (bt l i 0 - 192) + bt l i 1 - 128 < 2048 := by omega
    generalize 64 * (bt l i 0 - 192) + bt l i 1 - 128 = x at *
    by_cases hb : x < 128
    · left; exact ⟨.inl hb, by rw [if_pos (by omega)]⟩
    · right; exact ⟨by unfold badV; omega, by rw [if_neg (by omega)]⟩
  · have c1 := hc 1 (by omega) (by omega)
    have c2 := hc 2 (by omega) (by omega)
    rw [dec3 _ _ _ _ _ h1 h2 g1 g2]
    show (badV (64 * (64 * (bt l i 0 - 224) + bt l i 1 - 128) + bt l i 2 - 128) _ ∧ _) ∨ (¬ badV (64 * (64 * (bt l i 0 - 224) + bt l i 1 - 128) + bt l i 2 - 128) _ ∧ _ = (64 * (64 * (bt l i 0 - 224) + bt l i 1 - 128) + bt l i 2 - 128, _))
    have hx : 64 * (64 * (bt l i 0 - 224) + bt l i 1 - 128) + bt l i 2 - 128 < 65536 := by omega
    generalize 64 * (64 * (bt l i 0 - 224) + bt l i 1 - 128) + bt l i 2 - 128 = x at *
    by_cases hb : x < 2048 ∨ 55296 ≤ x ∧ x ≤ 57343
    · left; exact ⟨by unfold badV; omega, by rw [if_pos (by omega)]⟩
    · right; exact ⟨by unfold badV; omega, by rw [if_neg (by omega)]⟩
  · have c1 := hc 1 (by omega) (by omega)
    have c2 := hc 2 (by omega) (by omega)
    have c3 := hc 3 (by omega) (by omega)
    rw [dec4 _ _ _ _ _ h1 h2 g1 g2 g3]
    show (badV (64 * (64 * (64 * (bt l i 0 - 240) + bt l i 1 - 128) + bt l i 2 - 128) + bt l i 3 - 128) _ ∧ _) ∨ (¬ badV (64 * (64 * (64 * (bt l i 0 - 240) + bt l i 1 - 128) + bt l i 2 - 128) + bt l i 3 - 128) _ ∧ _ = (64 * (64 * (64 * (bt l i 0 - 240) + bt l i 1 - 128) + bt l i 2 - 128) + bt l i 3 - 128, _))
    generalize 64 * (64 * (64 * (bt l i 0 - 240) + bt l i 1 - 128) + bt l i 2 - 128) + bt l i 3 - 128 = x at *
    by_cases hb : x < 65536 ∨ 1114111 < x
    · left; exact ⟨by unfold badV; omega, by rw [if_pos (by omega)]⟩
    · right; exact ⟨by unfold badV; omega, by rw [if_neg (by omega)]⟩

theorem drop_ne {l : List UInt8} {i : Nat} (hi : i < l.length) : l.drop i ≠ [] := by
  intro e
  have := congrArg List.length e
  rw [List.length_drop] at this
  simp at this
  omega
set_option maxRecDepth 100000 in
theorem valid_bad {l : List UInt8} {i : Nat} (hi : i < l.length) (h : decodeL (l.drop i) = (65533, 1)) : validD (l.drop i) = false := by
  have e1 : (decodeL (l.drop i)).1 = 65533 := by rw [h]
  have e2 : (decodeL (l.drop i)).2 = 1 := by rw [h]
  rw [validD_step _ (drop_ne hi), if_pos ⟨e1, e2⟩]
set_option maxRecDepth 100000 in
theorem valid_on {l : List UInt8} {i v n : Nat} (hi : i < l.length) (h : decodeL (l.drop i) = (v, n)) (hv : ¬ (v = 65533 ∧ n = 1)) : validD (l.drop i) = validD (l.drop (i + n)) ∧ runesD (l.drop i) = v :: runesD (l.drop (i + n)) := by
  have e1 : (decodeL (l.drop i)).1 = v := by rw [h]
  have e2 : (decodeL (l.drop i)).2 = n := by rw [h]
  constructor
  · rw [validD_step _ (drop_ne hi), e1, e2, if_neg hv, List.drop_drop]
  · rw [runesD_step _ (drop_ne hi), e1, e2, List.drop_drop]
theorem contV_step (v0 : Nat) (l : List UInt8) (i j : Nat) : contV v0 l i (j + 1) ≤ 64 * contV v0 l i j + 127 := by
  have h := bt_lt l i (j + 1)
  show 64 * contV v0 l i j + bt l i (j + 1) - 128 ≤ _
  omega
theorem lead_v0 {b n v0 least : Nat} (h : lead b n v0 least) : v0 < 128 := by
  rcases h with ⟨_, h1, e, _⟩ | ⟨_, h1, h2, e, _⟩ | ⟨_, h1, h2, e, _⟩ | ⟨_, h1, h2, e, _⟩ <;> omega
theorem contV_lt {v0 : Nat} (l : List UInt8) (i : Nat) {k : Nat} (hv : v0 < 128) (hk : k ≤ 3) : contV v0 l i k < 134217728 := by
  have h0 : contV v0 l i 0 = v0 := rfl
  have h1 : contV v0 l i 1 ≤ 64 * contV v0 l i 0 + 127 := contV_step v0 l i 0
  have h2 : contV v0 l i 2 ≤ 64 * contV v0 l i 1 + 127 := contV_step v0 l i 1
  have h3 : contV v0 l i 3 ≤ 64 * contV v0 l i 2 + 127 := contV_step v0 l i 2
  have : k = 0 ∨ k = 1 ∨ k = 2 ∨ k = 3 := by omega
  rcases this with e | e | e | e
  · rw [e]; omega
  · rw [e]; omega
  · rw [e]; omega
  · rw [e]; omega
theorem badV_not {v least n : Nat} (h : ¬ badV v least) (hn : 1 ≤ n) (hl : n = 1 → v < 128) : ¬ (v = 65533 ∧ n = 1) := by omega

end Go.Proofs.Ytfcoidpkhggnpaa
