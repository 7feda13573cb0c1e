/-
  The items of items' runs are these, in plain lists: no memory; no claim stands here.
-/
import Derived.Test.YtjjehncgenajfaaDoorNMath
namespace Go.Proofs.YtjjehncgenajfaaDoor
open Go.Lib
set_option linter.unusedVariables false

/-- a character that UTF-8 has -/
def okCh (c : Int) : Prop := 0 ≤ c ∧ c ≤ 1114111 ∧ (c < 55296 ∨ 57343 < c)
theorem u8_toNat (n : Nat) (h : n < 256) : (n.toUInt8).toNat = n := by simp [Nat.toUInt8]; omega
theorem encN (n : Nat) : encodeRune (n : Int) = (encodeRuneZ (n : Int)).map fun x => x.toNat.toUInt8 := rfl
set_option maxRecDepth 100000 in
theorem dec_enc (n : Nat) (h : okCh (n : Int)) (t : List UInt8) : decodeL (encodeRune (n : Int) ++ t) = (n, (encodeRune (n : Int)).length) := by
  unfold okCh at h
  by_cases h1 : n ≤ 127
  · rw [encN, encodeRuneZ_one (by omega) (by omega)]
    rw [decodeL_N]
    simp only [List.map_cons, List.map_nil, List.cons_append, List.nil_append, List.getD_cons_zero, List.getD_cons_succ, Int.toNat_natCast, List.length_cons, List.length_nil]
    rw [u8_toNat n (by omega), dec1 _ _ _ _ _ (by omega)]
  · by_cases h2 : n ≤ 2047
    · rw [encN, encodeRuneZ_two (by omega) (by omega)]
      rw [decodeL_N]
      simp only [List.map_cons, List.map_nil, List.cons_append, List.nil_append, List.getD_cons_zero, List.getD_cons_succ, List.length_cons, List.length_nil]
      rw [show ((192 : Int) + (n : Int) / 64).toNat = 192 + n / 64 by omega, show ((128 : Int) + (n : Int) % 64).toNat = 128 + n % 64 by omega]
      rw [u8_toNat (192 + n / 64) (by omega), u8_toNat (128 + n % 64) (by omega), dec2 _ _ _ _ _ (by omega) (by omega) (by omega), if_neg (by omega)]
      apply Prod.ext <;> simp only <;> omega
    · by_cases h3 : n ≤ 65535
      · rw [encN, encodeRuneZ_three (by omega)]
        rw [decodeL_N]
        simp only [List.map_cons, List.map_nil, List.cons_append, List.nil_append, List.getD_cons_zero, List.getD_cons_succ, List.length_cons, List.length_nil]
        rw [show ((224 : Int) + (n : Int) / 4096).toNat = 224 + n / 4096 by omega, show ((128 : Int) + (n : Int) / 64 % 64).toNat = 128 + n / 64 % 64 by omega, show ((128 : Int) + (n : Int) % 64).toNat = 128 + n % 64 by omega]
        rw [u8_toNat (224 + n / 4096) (by omega), u8_toNat (128 + n / 64 % 64) (by omega), u8_toNat (128 + n % 64) (by omega), dec3 _ _ _ _ _ (by omega) (by omega) (by omega) (by omega), if_neg (by omega)]
        apply Prod.ext <;> simp only <;> omega
      · rw [encN, encodeRuneZ_four (by omega) (by omega)]
        rw [decodeL_N]
        simp only [List.map_cons, List.map_nil, List.cons_append, List.nil_append, List.getD_cons_zero, List.getD_cons_succ, List.length_cons, List.length_nil]
        rw [show ((240 : Int) + (n : Int) / 262144).toNat = 240 + n / 262144 by omega, show ((128 : Int) + (n : Int) / 4096 % 64).toNat = 128 + n / 4096 % 64 by omega, show ((128 : Int) + (n : Int) / 64 % 64).toNat = 128 + n / 64 % 64 by omega, show ((128 : Int) + (n : Int) % 64).toNat = 128 + n % 64 by omega]
        rw [u8_toNat (240 + n / 262144) (by omega), u8_toNat (128 + n / 4096 % 64) (by omega), u8_toNat (128 + n / 64 % 64) (by omega), u8_toNat (128 + n % 64) (by omega), dec4 _ _ _ _ _ (by omega) (by omega) (by omega) (by omega) (by omega), if_neg (by omega)]
        apply Prod.ext <;> simp only <;> omega

theorem enc_on {c : Int} (h : okCh c) (t : List UInt8) : validD (encodeRune c ++ t) = validD t ∧ runesD (encodeRune c ++ t) = c.toNat :: runesD t := by
  obtain ⟨n, rfl⟩ : ∃ n : Nat, c = n := ⟨c.toNat, by have := h.1; omega⟩
  have hd := dec_enc n h t
  have hl := enc_len (n : Int)
  have hne : encodeRune (n : Int) ++ t ≠ [] := by
    intro e
    have := congrArg List.length e
    rw [List.length_append, List.length_nil] at this
    omega
  have e1 : (decodeL (encodeRune (n : Int) ++ t)).1 = n := by rw [hd]
  have e2 : (decodeL (encodeRune (n : Int) ++ t)).2 = (encodeRune (n : Int)).length := by rw [hd]
  have hv : ¬ (n = 65533 ∧ (encodeRune (n : Int)).length = 1) := by
    rintro ⟨e, h9⟩
    subst e
    revert h9
    decide
  constructor
  · rw [validD_step _ hne, e1, e2, if_neg hv, List.drop_left]
  · rw [runesD_step _ hne, e1, e2, List.drop_left, Int.toNat_natCast]
theorem enc_one {c : Int} (h : okCh c) : validD (encodeRune c) = true ∧ runesD (encodeRune c) = [c.toNat] := by
  have := enc_on h []
  rw [List.append_nil] at this
  exact ⟨this.1.trans validD_nil, this.2⟩

/-- an item that Rising lets by -/
def okI (x : It) : Prop := x.c ≠ 0 ∧ x.k ≤ 4294967294 ∧ okCh x.ch
theorem head_ids : ∀ (y : It) (l : List It), ∃ r rs, runsOf (y :: l) = r :: rs ∧ r.c = y.c ∧ r.k = y.k ∧ r.lc = y.lc ∧ r.lk = y.lk ∧ r.rc = y.rc ∧ r.rk = y.rk := by
  intro y l
  rw [runs_cons]
  cases runsOf l with
  | nil => exact ⟨one y, [], rfl, rfl, rfl, rfl, rfl, rfl, rfl⟩
  | cons r rs =>
    rw [consR_cons]
    split
    · exact ⟨_, _, rfl, rfl, rfl, rfl, rfl, rfl, rfl⟩
    · exact ⟨_, _, rfl, rfl, rfl, rfl, rfl, rfl, rfl⟩
theorem items_of_one {x : It} (h : okI x) : itemsR (one x) = [x] := by
  have h0 := h.2.2.1
  unfold itemsR
  show itemsGo x.c x.k x.lc x.lk x.rc x.rk (runesD (encodeRune x.ch)) = _
  rw [(enc_one h.2.2).2]
  show [(⟨x.c, x.k, x.lc, x.lk, x.rc, x.rk, ((x.ch.toNat : Nat) : Int)⟩ : It)] = _
  rw [Int.toNat_of_nonneg h0]
theorem may_one {x : It} (h : okI x) : mayN (one x) = true := by
  unfold mayN one
  rw [decide_eq_true_eq]
  simp only
  rw [(enc_one h.2.2).1, (enc_one h.2.2).2]
  have h1 := h.1
  have h2 := h.2.1
  refine ⟨rfl, by simp, h1, ?_⟩
  simp only [List.length_cons, List.length_nil]
  omega
theorem on_iff {x y : It} : onI x y = true ↔ x.c ≠ 0 ∧ x.k + 1 ≤ 4294967294 ∧ y.c = x.c ∧ y.k = x.k + 1 ∧ y.lc = x.c ∧ y.lk = x.k ∧ y.rc = x.rc ∧ y.rk = x.rk := by unfold onI; rw [decide_eq_true_eq]
/-- the items of items' runs are these, and the runs may be -/
theorem back : ∀ {l : List It}, (∀ x ∈ l, okI x) → itemsOf (runsOf l) = l ∧ ∀ r ∈ runsOf l, mayN r = true
  | [], _ => ⟨rfl, fun r h => by cases h⟩
  | x :: l, h => by
    have hx := h x (List.mem_cons_self ..)
    obtain ⟨i1, i2⟩ := back (l := l) fun y hy => h y (List.mem_cons_of_mem _ hy)
    rw [runs_cons]
    cases hn : nextOn x l with
    | false =>
      rw [consR_false, items_cons, items_of_one hx, i1]
      refine ⟨rfl, fun r hr => ?_⟩
      rcases List.mem_cons.1 hr with e | e
      · rw [e]; exact may_one hx
      · exact i2 r e
    | true =>
      cases l with
      | nil => simp [nextOn] at hn
      | cons y l =>
        have hon : onI x y = true := hn
        obtain ⟨o1, o2, o3, o4, o5, o6, o7, o8⟩ := on_iff.1 hon
        obtain ⟨r, rs, e, r1, r2, r3, r4, r5, r6⟩ := head_ids y l
        rw [e] at i1 i2 ⊢
        rw [consR_cons, if_pos rfl]
        have hi : itemsR (glue x r) = x :: itemsR r := by
          unfold itemsR
          show itemsGo x.c x.k x.lc x.lk x.rc x.rk (runesD (encodeRune x.ch ++ r.t)) = _
          rw [(enc_on hx.2.2 r.t).2, r1, r2, r3, r4, r5, r6, o3, o4, o5, o6, o7, o8]
          show (⟨x.c, x.k, x.lc, x.lk, x.rc, x.rk, ((x.ch.toNat : Nat) : Int)⟩ : It) :: _ = _
          rw [Int.toNat_of_nonneg hx.2.2.1]
        refine ⟨by rw [items_cons, hi, List.cons_append, ← items_cons, i1], fun q hq => ?_⟩
        rcases List.mem_cons.1 hq with e9 | e9
        · rw [e9]
          have hr := i2 r (List.mem_cons_self ..)
          unfold mayN at hr ⊢
          rw [decide_eq_true_eq] at hr ⊢
          obtain ⟨m1, m2, m3, m4⟩ := hr
          show validD (encodeRune x.ch ++ r.t) = true ∧ 0 < (runesD (encodeRune x.ch ++ r.t)).length ∧ x.c ≠ 0 ∧ x.k + (runesD (encodeRune x.ch ++ r.t)).length - 1 ≤ 4294967294
          rw [(enc_on hx.2.2 r.t).1, (enc_on hx.2.2 r.t).2, List.length_cons]
          refine ⟨m1, by omega, hx.1, ?_⟩
          rw [r2, o4] at m4
          omega
        · exact i2 q (List.mem_cons_of_mem _ e9)

end Go.Proofs.YtjjehncgenajfaaDoor
