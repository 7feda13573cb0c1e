/-
  Whole characters in bytes: where one begins or ends a text; how many bytes some have; no memory; no claim stands here.
-/
import Derived.Test.YtjjehncgenajfaaDoorDfM
import Derived.Lib.SpaceUEq
import Derived.Lib.Strings
import Derived.Lib.TrimU
namespace Go.Proofs.YtjjehncgenajfaaDoor
open Go.Lib
set_option linter.unusedVariables false

theorem last4 (t : List UInt8) (c0 c1 c2 c3 : UInt8) (h3 : 128 ≤ c3.toNat) (h2 : runeStartB c2 = false) (h1 : runeStartB c1 = false) (h0 : runeStartB c0 = true) (hd : (decodeL [c0, c1, c2, c3]).2 = 4) : decodeLastL (t ++ [c0, c1, c2, c3]) = decodeL [c0, c1, c2, c3] := by
  have g1 := getD_app_end t [c0, c1, c2, c3] 1 (by omega) (by simp)
  have g2 := getD_app_end t [c0, c1, c2, c3] 2 (by omega) (by simp)
  have g3 := getD_app_end t [c0, c1, c2, c3] 3 (by omega) (by simp)
  have g4 := getD_app_end t [c0, c1, c2, c3] 4 (by omega) (by simp)
  have hl : (t ++ [c0, c1, c2, c3]).length = t.length + 4 := by simp
  have hs : lastStart (t ++ [c0, c1, c2, c3]) = (t ++ [c0, c1, c2, c3]).length - 4 := by
    unfold lastStart
    simp only [g2, g3, g4]
    rw [if_neg (by omega)]
    simp only [List.length_cons, List.length_nil, List.getD_cons_succ, List.getD_cons_zero, Nat.reduceAdd, Nat.reduceSub, h2, h1, h0, Bool.false_eq_true, if_false, if_true]
    rw [if_neg (by omega), if_neg (by omega)]
  have hdrop := drop_app_end t [c0, c1, c2, c3]
  unfold decodeLastL
  rw [if_neg (by simp), g1, if_neg (by simp; omega), hs]
  simp only [List.length_cons, List.length_nil] at hdrop
  simp only [hdrop, hd]
  rw [if_pos (by omega)]
theorem start_no {n : Nat} (h : n < 64) : runeStartB ((128 + n).toUInt8) = false := by
  unfold runeStartB
  rw [u8_toNat _ (by omega), show (128 + n) / 64 = 2 by omega]
  rfl
theorem start_yes {n : Nat} (h : 192 ≤ n) (h2 : n < 256) : runeStartB (n.toUInt8) = true := by
  unfold runeStartB
  rw [u8_toNat _ h2]
  have : n / 64 = 3 := by omega
  rw [this]
  rfl
theorem enc_list (n : Nat) (h : okCh (n : Int)) : (n ≤ 127 ∧ encodeRune (n : Int) = [n.toUInt8]) ∨ (∃ a b, a < 64 ∧ b < 64 ∧ encodeRune (n : Int) = [(192 + a).toUInt8, (128 + b).toUInt8]) ∨
    (∃ a b c, a < 64 ∧ b < 64 ∧ c < 64 ∧ encodeRune (n : Int) = [(192 + a).toUInt8, (128 + b).toUInt8, (128 + c).toUInt8]) ∨ ∃ a b c d, a < 64 ∧ b < 64 ∧ c < 64 ∧ d < 64 ∧ encodeRune (n : Int) = [(192 + a).toUInt8, (128 + b).toUInt8, (128 + c).toUInt8, (128 + d).toUInt8] := by
  unfold okCh at h
  by_cases h1 : n ≤ 127
  · refine .inl ⟨h1, ?_⟩
    rw [encN, encodeRuneZ_one (by omega) (by omega)]
    simp only [List.map_cons, List.map_nil, Int.toNat_natCast]
  · by_cases h2 : n ≤ 2047
    · refine .inr (.inl ⟨n / 64, n % 64, by omega, by omega, ?_⟩)
      rw [encN, encodeRuneZ_two (by omega) (by omega)]
      simp only [List.map_cons, List.map_nil]
      rw [show ((192 : Int) + (n : Int) / 64).toNat = 192 + n / 64 by omega, show ((128 : Int) + (n : Int) % 64).toNat = 128 + n % 64 by omega]
    · by_cases h3 : n ≤ 65535
      · refine .inr (.inr (.inl ⟨32 + n / 4096, n / 64 % 64, n % 64, by omega, by omega, by omega, ?_⟩))
        rw [encN, encodeRuneZ_three (by omega)]
        simp only [List.map_cons, List.map_nil]
        rw [show ((224 : Int) + (n : Int) / 4096).toNat = 192 + (32 + n / 4096) by omega, show ((128 : Int) + (n : Int) / 64 % 64).toNat = 128 + n / 64 % 64 by omega, show ((128 : Int) + (n : Int) % 64).toNat = 128 + n % 64 by omega]
      · refine .inr (.inr (.inr ⟨48 + n / 262144, n / 4096 % 64, n / 64 % 64, n % 64, by omega, by omega, by omega, by omega, ?_⟩))
        rw [encN, encodeRuneZ_four (by omega) (by omega)]
        simp only [List.map_cons, List.map_nil]
        rw [show ((240 : Int) + (n : Int) / 262144).toNat = 192 + (48 + n / 262144) by omega, show ((128 : Int) + (n : Int) / 4096 % 64).toNat = 128 + n / 4096 % 64 by omega, show ((128 : Int) + (n : Int) / 64 % 64).toNat = 128 + n / 64 % 64 by omega, show ((128 : Int) + (n : Int) % 64).toNat = 128 + n % 64 by omega]
/-- from the end the last character is decoded, whatever stands ahead of it -/
theorem last_enc (n : Nat) (h : okCh (n : Int)) (t : List UInt8) : decodeLastL (t ++ encodeRune (n : Int)) = (n, (encodeRune (n : Int)).length) := by
  have hd := dec_enc n h []
  rw [List.append_nil] at hd
  have b8 : ∀ k : Nat, k < 64 → 128 ≤ ((128 + k).toUInt8).toNat := fun k hk => by rw [u8_toNat _ (by omega)]; omega
  rcases enc_list n h with ⟨h1, e⟩ | ⟨a, b, ha, hb, e⟩ | ⟨a, b, c, ha, hb, hc, e⟩ | ⟨a, b, c, d, ha, hb, hc, hd', e⟩
  · rw [e, decodeLastL_ascii t _ (by rw [u8_toNat _ (by omega)]; omega), u8_toNat _ (by omega)]
    rfl
  · rw [e] at hd ⊢
    rw [last2 t _ _ (b8 b hb) (start_yes (by omega) (by omega)) (by rw [hd]; rfl), hd]
  · rw [e] at hd ⊢
    rw [last3 t _ _ _ (b8 c hc) (start_no hb) (start_yes (by omega) (by omega)) (by rw [hd]; rfl), hd]
  · rw [e] at hd ⊢
    rw [last4 t _ _ _ _ (b8 d hd') (start_no hc) (start_no hb) (start_yes (by omega) (by omega)) (by rw [hd]; rfl), hd]

/-- characters that UTF-8 has -/
def okL (l : List Nat) : Prop := ∀ n ∈ l, okCh (n : Int)
theorem okL.drop {l : List Nat} (h : okL l) (k : Nat) : okL (l.drop k) := fun n hn => h n (List.mem_of_mem_drop hn)
theorem okL.take {l : List Nat} (h : okL l) (k : Nat) : okL (l.take k) := fun n hn => h n (List.mem_of_mem_take hn)
theorem encU_cons (n : Nat) (l : List Nat) : encU (n :: l) = encodeRune (n : Int) ++ encU l := by simp [encU]
theorem encU_one (n : Nat) : encU [n] = encodeRune (n : Int) := by simp [encU]
theorem encU_pos {l : List Nat} (h : l ≠ []) : 0 < (encU l).length := by
  cases l with
  | nil => exact absurd rfl h
  | cons n l =>
    rw [encU_cons, List.length_append]
    have := (enc_len (n : Int)).1
    omega
theorem encU_inj {x y : List Nat} (hx : okL x) (hy : okL y) (h : encU x = encU y) : x = y := by rw [← (dec_enc1 hx).2, ← (dec_enc1 hy).2, h]
/-- a character that begins a text's bytes begins the text -/
theorem pre_enc {c : Nat} {y : List Nat} (hc : okCh (c : Int)) (hy : okL y) : hasPrefix (encU y) (encodeRune (c : Int)) = decide (y.head? = some c) := by
  unfold hasPrefix
  apply Bool.eq_iff_iff.2
  rw [List.isPrefixOf_iff_prefix, decide_eq_true_iff]
  constructor
  · rintro ⟨t, ht⟩
    have h1 := (enc_on hc t).2
    rw [ht, (dec_enc1 hy).2, Int.toNat_natCast] at h1
    rw [h1]; rfl
  · intro h
    cases y with
    | nil => cases h
    | cons d y =>
      obtain rfl : d = c := by simpa using h
      rw [encU_cons]
      exact ⟨_, rfl⟩
/-- one that ends its bytes ends the text -/
theorem suf_enc {c : Nat} {y : List Nat} (hc : okCh (c : Int)) (hy : okL y) : hasSuffix (encU y) (encodeRune (c : Int)) = decide (y.reverse.head? = some c) := by
  unfold hasSuffix
  apply Bool.eq_iff_iff.2
  rw [List.isSuffixOf_iff_suffix, decide_eq_true_iff]
  rcases List.eq_nil_or_concat y with rfl | ⟨z, d, rfl⟩
  · refine ⟨fun h => ?_, fun h => by cases h⟩
    have := h.length_le
    have hp := (enc_len (c : Int)).1
    simp [encU] at this
    rw [this] at hp
    simp at hp
  · have hd : okCh (d : Int) := hy d (by simp)
    rw [List.concat_eq_append, encU_app, encU_one, List.reverse_append]
    constructor
    · rintro ⟨t, ht⟩
      have h1 := last_enc c hc t
      rw [ht, last_enc d hd] at h1
      have : d = c := congrArg Prod.fst h1
      rw [this]; rfl
    · intro h
      obtain rfl : d = c := by simpa using h
      exact ⟨_, rfl⟩
theorem encU_split (x : List Nat) (k : Nat) : encU x = encU (x.take k) ++ encU (x.drop k) := by rw [← encU_app, List.take_append_drop]
theorem encU_drop (x : List Nat) (k : Nat) : (encU x).drop (encU (x.take k)).length = encU (x.drop k) := by
  conv => lhs; rw [encU_split x k]
  rw [List.drop_left]
theorem encU_take (x : List Nat) (k : Nat) : (encU x).take (encU (x.take k)).length = encU (x.take k) := by
  conv => lhs; rw [encU_split x k]
  rw [List.take_left]
theorem encU_cut (x : List Nat) (k : Nat) : (encU x).take ((encU x).length - (encU (x.drop k)).length) = encU (x.take k) := by
  have := encU_split x k
  rw [show (encU x).length - (encU (x.drop k)).length = (encU (x.take k)).length by rw [this, List.length_append]; omega, encU_take]
theorem encU_more (x : List Nat) (k c : Nat) (h : x[k]? = some c) : (encU (x.take (k + 1))).length = (encU (x.take k)).length + (encodeRune (c : Int)).length := by
  have : x.take (k + 1) = x.take k ++ [c] := by rw [List.take_add_one, h]; rfl
  rw [this, encU_app, encU_one, List.length_append]
theorem head_at (y : List Nat) (k : Nat) : (y.drop k).head? = y[k]? := by rw [List.head?_drop]
theorem dec_go (l : List UInt8) (h : l ≠ []) : decodeGoB ⟨l.toArray⟩ = decodeL l := by
  unfold decodeGoB decodeL
  rw [if_neg]
  show ¬ l.toArray.size = 0
  have := List.length_pos_iff.2 h
  simp only [List.size_toArray]
  omega
theorem dec_head (x : List Nat) (hx : okL x) (k c : Nat) (h : x[k]? = some c) : decodeGoB ⟨(encU (x.drop k)).toArray⟩ = (c, (encodeRune (c : Int)).length) := by
  have e : x.drop k = c :: x.drop (k + 1) := by
    obtain ⟨hk, rfl⟩ := List.getElem?_eq_some_iff.1 h
    exact List.drop_eq_getElem_cons hk
  rw [e, encU_cons, dec_go _ (by intro h0; have h1 := congrArg List.length h0; rw [List.length_append, List.length_nil] at h1; have := (enc_len (c : Int)).1; omega), dec_enc c (hx c (List.mem_of_getElem? h))]
theorem dec_last (x : List Nat) (hx : okL x) (k c : Nat) (h : x[k]? = some c) : decodeLastL (encU (x.take (k + 1))) = (c, (encodeRune (c : Int)).length) := by
  have : x.take (k + 1) = x.take k ++ [c] := by rw [List.take_add_one, h]; rfl
  rw [this, encU_app, encU_one, last_enc c (hx c (List.mem_of_getElem? h))]

end Go.Proofs.YtjjehncgenajfaaDoor
