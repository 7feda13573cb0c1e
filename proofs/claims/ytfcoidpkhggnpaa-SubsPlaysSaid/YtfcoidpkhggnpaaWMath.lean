/-
  Numbers and texts as bytes, in plain lists: no memory; no claim stands here.
-/
import Derived.Lib.ValidLaws
import Derived.Lib.BitFns
namespace Go.Proofs.Ytfcoidpkhggnpaa
open Go.Lib
set_option linter.unusedVariables false

/-- the lowest k bytes of a number, the highest one first -/
def be (v : Nat) : Nat → List UInt8
  | 0 => []
  | k + 1 => UInt8.ofNat (v / 256 ^ k) :: be v k
/-- how many bytes a number has -/
def lenB (v : Nat) : Nat := if v = 0 then 0 else if v < 256 then 1 else if v < 65536 then 2 else if v < 16777216 then 3 else 4
/-- a number's bytes -/
def numB (v : Nat) : List UInt8 := UInt8.ofNat (lenB v) :: be v (lenB v)
/-- the number that bytes spell -/
def valB (l : List UInt8) : Nat := l.foldl (fun v x => 256 * v + x.toNat) 0
/-- the number whose bytes stand from a place on, and how many they are -/
def getB (l : List UInt8) (p : Int) : Option (Nat × Nat) :=
  if p < 0 ∨ (l.length : Int) ≤ p then none
  else if 4 < (l.getD p.toNat 0).toNat ∨ (l.drop (p.toNat + 1)).length < (l.getD p.toNat 0).toNat ∨ (0 < (l.getD p.toNat 0).toNat ∧ ((l.drop (p.toNat + 1)).getD 0 0).toNat = 0) then none
  else some (valB ((l.drop (p.toNat + 1)).take (l.getD p.toNat 0).toNat), (l.getD p.toNat 0).toNat + 1)
/-- a text's bytes -/
def putT (s : List UInt8) : List UInt8 := numB s.length ++ s
/-- the text whose bytes stand from a place on, and how many they are -/
def getT (l : List UInt8) (p : Int) : Option (List UInt8 × Nat) :=
  match getB l p with
  | none => none
  | some (z, n) => if (l.drop (p.toNat + n)).length < z then none else if validD ((l.drop (p.toNat + n)).take z) then some ((l.drop (p.toNat + n)).take z, n + z) else none

theorem be_len (v : Nat) : ∀ k, (be v k).length = k
  | 0 => rfl
  | k + 1 => by rw [be, List.length_cons, be_len v k]
theorem lenB_le (v : Nat) : lenB v ≤ 4 := by unfold lenB; (repeat' split) <;> omega
theorem ofNat_val (n : Nat) : (UInt8.ofNat n).toNat = n % 256 := by simp
theorem numB_len (v : Nat) : (numB v).length = lenB v + 1 := by rw [numB, List.length_cons, be_len]
theorem lenB_zero {v : Nat} (h : lenB v = 0) : v = 0 := by unfold lenB at h; (repeat' split at h) <;> omega
theorem lenB_lt {v : Nat} (h : v < 4294967296) : v < 256 ^ lenB v := by unfold lenB; (repeat' split) <;> (simp; try omega)
theorem lenB_ge {v : Nat} (h : 0 < lenB v) : 256 ^ (lenB v - 1) ≤ v := by
  unfold lenB at h ⊢
  (repeat' split) <;> simp_all <;> omega

theorem bitLen_lenB (v : Nat) (h : v < 4294967296) : (bitLen v + 7) / 8 = lenB v := by
  have key : ∀ x, x < 256 → 0 < x → 1 ≤ bitLen x ∧ bitLen x ≤ 8 := fun x hx h0 => ⟨by rw [bitLen_half x (by omega) (by omega)]; omega, bitLen_le8 ⟨x, hx⟩⟩
  unfold lenB
  split
  · next e => subst e; decide
  split
  · next h0 h1 => have := key v h1 (by omega); omega
  split
  · next h0 h1 h2 => rw [bitLen_shift8 v (by omega) (by omega)]; have := key (v / 256) (by omega) (by omega); omega
  split
  · next h0 h1 h2 h3 => rw [bitLen_shift16 v (by omega) (by omega)]; have := key (v / 65536) (by omega) (by omega); omega
  · next h0 h1 h2 h3 => rw [bitLen_shift24 v (by omega) (by omega)]; have := key (v / 16777216) (by omega) (by omega); omega

/-- the bytes of the reference, from the lowest one on -/
theorem be_low (v k : Nat) : be (v / 256) k ++ [UInt8.ofNat v] = be v (k + 1) := by
  induction k with
  | zero => simp [be]
  | succ k ih =>
    rw [be, List.cons_append, ih, Nat.div_div_eq_div_mul, ← Nat.pow_succ']; rfl
theorem lenB_div {v : Nat} (h0 : 0 < v) (h : v < 4294967296) : lenB v = lenB (v / 256) + 1 := by
  unfold lenB
  repeat' split
  all_goals omega

theorem valB_append (l : List UInt8) (x : UInt8) : valB (l ++ [x]) = 256 * valB l + x.toNat := by simp [valB]
theorem valB_take {l : List UInt8} {k : Nat} (h : k < l.length) : valB (l.take (k + 1)) = 256 * valB (l.take k) + (l.getD k 0).toNat := by
  rw [List.take_add_one, List.getElem?_eq_getElem h]
  simp only [Option.toList_some, List.getD, List.getElem?_eq_getElem h, Option.getD_some]
  exact valB_append _ _
theorem valB_lt : ∀ (k : Nat) (l : List UInt8), valB (l.take k) < 256 ^ k
  | 0, l => by simp [valB]
  | k + 1, l => by
    rcases Nat.lt_or_ge k l.length with h | h
    · have := valB_lt k l
      have hx := (l.getD k 0).toNat_lt
      rw [valB_take h, Nat.pow_succ]
      omega
    · have := valB_lt k l
      rw [List.take_of_length_le (by omega)]
      rw [List.take_of_length_le h] at this
      rw [Nat.pow_succ]
      omega
theorem be_take (v k : Nat) : valB (be v k) = v % 256 ^ k := by
  have key : ∀ (l : List UInt8) (a : Nat), l.foldl (fun v x => 256 * v + x.toNat) a = a * 256 ^ l.length + valB l := by
    intro l
    induction l with
    | nil => intro a; simp [valB]
    | cons x l ih =>
      intro a
      simp only [List.foldl_cons, List.length_cons]
      rw [ih, show valB (x :: l) = (256 * 0 + x.toNat) * 256 ^ l.length + valB l from ih _]
      rw [Nat.pow_succ, Nat.mul_zero, Nat.zero_add, Nat.add_mul, Nat.add_assoc]
      congr 1
      rw [Nat.mul_comm 256 a, Nat.mul_assoc, Nat.mul_comm 256]
  induction k with
  | zero => simp [be, valB, Nat.mod_one]
  | succ k ih =>
    rw [be]
    show (be v k).foldl _ (256 * 0 + (UInt8.ofNat (v / 256 ^ k)).toNat) = _
    rw [key, be_len, ih, ofNat_val, Nat.mul_zero, Nat.zero_add, Nat.pow_succ, Nat.mod_mul, Nat.mul_comm, Nat.add_comm]
theorem be_head {v : Nat} (h0 : 0 < lenB v) (h : v < 4294967296) : ((be v (lenB v)).getD 0 0).toNat ≠ 0 := by
  obtain ⟨k, hk⟩ : ∃ k, lenB v = k + 1 := ⟨lenB v - 1, by omega⟩
  have h1 := lenB_lt h
  have h2 := lenB_ge h0
  rw [hk] at h1 h2 ⊢
  rw [be]
  simp only [List.getD_cons_zero]
  rw [ofNat_val]
  simp only [Nat.add_sub_cancel] at h2
  have h3 : v / 256 ^ k < 256 := by rw [Nat.div_lt_iff_lt_mul (Nat.pow_pos (by omega)), Nat.mul_comm, ← Nat.pow_succ]; exact h1
  have h4 : 0 < v / 256 ^ k := Nat.div_pos h2 (Nat.pow_pos (by omega))
  omega

/-- what was put is got -/
theorem getB_put (a b : List UInt8) {v : Nat} (h : v < 4294967296) : getB (a ++ numB v ++ b) a.length = some (v, (numB v).length) := by
  have hd : (a ++ numB v ++ b).drop (a.length + 1) = be v (lenB v) ++ b := by
    rw [List.append_assoc, ← List.drop_drop, List.drop_left]; rfl
  have hg : ((a ++ numB v ++ b).getD a.length 0).toNat = lenB v := by
    have : (a ++ numB v ++ b).getD a.length 0 = UInt8.ofNat (lenB v) := by
      rw [List.append_assoc, List.getD, List.getElem?_append_right (Nat.le_refl _), Nat.sub_self]; rfl
    rw [this, ofNat_val]
    have := lenB_le v
    omega
  have hl := lenB_le v
  unfold getB
  rw [Int.toNat_natCast, hd, hg, if_neg (by rw [List.length_append, List.length_append, numB_len]; omega), if_neg, numB_len]
  · rw [List.take_left' (be_len v _), be_take, Nat.mod_eq_of_lt (lenB_lt h)]
  · rw [List.length_append, be_len]
    rintro (h1 | h1 | ⟨h1, h2⟩)
    · omega
    · omega
    · refine be_head h1 h ?_
      have : ((be v (lenB v) ++ b).getD 0 0) = (be v (lenB v)).getD 0 0 := by
        rw [List.getD, List.getElem?_append_left (by rw [be_len]; exact h1)]; rfl
      rw [this] at h2
      exact h2
/-- cut off, it isn't -/
theorem getB_cut {v k : Nat} (h : v < 4294967296) (hk : k < (numB v).length) : getB ((numB v).take k) 0 = none := by
  unfold getB
  rw [numB_len] at hk
  cases k with
  | zero => rw [if_pos (by simp)]
  | succ k =>
    have hl := lenB_le v
    rw [if_neg (by rw [List.length_take, numB_len]; omega), if_pos]
    have e : (List.take (k + 1) (numB v)).getD (0 : Int).toNat 0 = UInt8.ofNat (lenB v) := rfl
    rw [e, ofNat_val]
    right; left
    rw [List.length_drop, List.length_take, numB_len]
    show _ - (0 + 1) < _
    omega
theorem be_of_val : ∀ (k : Nat) (l : List UInt8), l.length = k → be (valB l) k = l := by
  intro k
  induction k with
  | zero => intro l h; rw [List.eq_nil_of_length_eq_zero h]; rfl
  | succ k ih =>
    intro l h
    obtain ⟨m, x, rfl⟩ : ∃ m x, l = m ++ [x] := ⟨l.dropLast, l.getLast (by intro e; rw [e] at h; cases h), (List.dropLast_concat_getLast _).symm⟩
    have hm : m.length = k := by simpa using h
    have hx := x.toNat_lt
    rw [← be_low, valB_append, show (256 * valB m + x.toNat) / 256 = valB m by omega, ih m hm]
    congr 2
    apply UInt8.toNat_inj.1
    rw [ofNat_val]
    omega
theorem lenB_of {v k : Nat} (h1 : k ≤ 4) (h2 : v < 256 ^ k) (h3 : 0 < k → 256 ^ (k - 1) ≤ v) : lenB v = k := by
  have : k = 0 ∨ k = 1 ∨ k = 2 ∨ k = 3 ∨ k = 4 := by omega
  unfold lenB
  rcases this with rfl | rfl | rfl | rfl | rfl <;> simp at h2 h3 <;> repeat' split
  all_goals omega
/-- what is got, put, is those bytes -/
theorem getB_back {l : List UInt8} {p : Nat} {v n : Nat} (h : getB l p = some (v, n)) : numB v = (l.drop p).take n ∧ p + n ≤ l.length ∧ 0 < n ∧ n ≤ 5 ∧ v < 4294967296 := by
  unfold getB at h
  rw [Int.toNat_natCast] at h
  split at h
  · cases h
  next h1 =>
  split at h
  · cases h
  next h2 =>
  injection h with h
  injection h with hv hn
  obtain ⟨f, hf⟩ : ∃ f, (l.getD p 0).toNat = f := ⟨_, rfl⟩
  rw [hf] at h2 hv hn
  have hp : p < l.length := by omega
  have hfl : f ≤ 4 ∧ f ≤ (l.drop (p + 1)).length := by omega
  have hlen : ((l.drop (p + 1)).take f).length = f := by rw [List.length_take]; omega
  have hlt : v < 256 ^ f := by rw [← hv]; have := valB_lt f (l.drop (p + 1)); exact this
  have hge : 0 < f → 256 ^ (f - 1) ≤ v := by
    intro h0
    have hz : ((l.drop (p + 1)).getD 0 0).toNat ≠ 0 := fun e => h2 (.inr (.inr ⟨h0, e⟩))
    obtain ⟨k, rfl⟩ : ∃ k, f = k + 1 := ⟨f - 1, by omega⟩
    have hb := be_of_val (k + 1) _ hlen
    rw [hv, be] at hb
    have hh : UInt8.ofNat (v / 256 ^ k) = (l.drop (p + 1)).getD 0 0 := by
      have := congrArg (fun m => m.getD 0 0) hb
      simp only [List.getD_cons_zero] at this
      rw [this, List.getD, List.getD, List.getElem?_take, if_pos (by omega)]
    rw [← hh, ofNat_val] at hz
    rw [Nat.add_sub_cancel]
    have : 0 < v / 256 ^ k := by
      rcases Nat.eq_zero_or_pos (v / 256 ^ k) with e | e
      · rw [e] at hz; exact absurd rfl hz
      · exact e
    exact (Nat.div_pos_iff.1 this).2
  have hL := lenB_of hfl.1 hlt hge
  have h5 : f + 1 ≤ 5 := by omega
  refine ⟨?_, ?_, by omega, by omega, Nat.lt_of_lt_of_le hlt (by calc 256 ^ f ≤ 256 ^ 4 := Nat.pow_le_pow_right (by omega) hfl.1
                                                                _ = 4294967296 := by rfl)⟩
  · rw [numB, hL, ← hv, be_of_val f _ hlen, ← hn, List.drop_eq_getElem_cons hp, List.take_succ_cons]
    congr 1
    have : l.getD p 0 = l[p] := by simp [List.getD, hp]
    rw [this] at hf
    apply UInt8.toNat_inj.1
    rw [ofNat_val, hf]
    omega
  · rw [List.length_drop] at hfl; omega

theorem putT_len (s : List UInt8) : (putT s).length = lenB s.length + 1 + s.length := by rw [putT, List.length_append, numB_len]
theorem getT_put (a b : List UInt8) {s : List UInt8} (hl : s.length < 4294967296) (hv : validD s = true) : getT (a ++ putT s ++ b) a.length = some (s, (putT s).length) := by
  unfold getT
  rw [show a ++ putT s ++ b = a ++ numB s.length ++ (s ++ b) by rw [putT]; simp, getB_put _ _ hl]
  simp only [Int.toNat_natCast]
  have hd : (a ++ numB s.length ++ (s ++ b)).drop (a.length + (numB s.length).length) = s ++ b := by
    rw [← List.length_append, List.drop_left]
  rw [hd, List.take_left, hv, if_neg (by rw [List.length_append]; omega), if_pos rfl, putT, List.length_append]
theorem getT_cut {s : List UInt8} {k : Nat} (hl : s.length < 4294967296) (hk : k < (putT s).length) : getT ((putT s).take k) 0 = none := by
  unfold getT
  rw [putT_len] at hk
  rcases Nat.lt_or_ge k (numB s.length).length with h | h
  · rw [putT, List.take_append_of_le_length (by omega), getB_cut hl h]
  · have e : (putT s).take k = [] ++ numB s.length ++ s.take (k - (numB s.length).length) := by
      rw [putT, List.take_append, List.take_of_length_le h, List.nil_append]
    have hg := getB_put [] (s.take (k - (numB s.length).length)) hl
    rw [← e] at hg
    rw [show ((([] : List UInt8).length : Nat) : Int) = 0 from rfl] at hg
    rw [hg]
    simp only [Int.toNat_zero, Nat.zero_add]
    rw [if_pos]
    rw [List.length_drop, List.length_take, putT_len, numB_len]
    rw [numB_len] at h
    omega

end Go.Proofs.Ytfcoidpkhggnpaa
