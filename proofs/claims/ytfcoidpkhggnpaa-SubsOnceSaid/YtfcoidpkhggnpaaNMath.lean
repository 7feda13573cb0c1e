/-
  Items and runs, in plain lists: no memory; no claim stands here.
-/
import Derived.Test.YtfcoidpkhggnpaaChMath
import Derived.Lib.RuneBytes
import Derived.Lib.RuneCount
namespace Go.Proofs.Ytfcoidpkhggnpaa
open Go.Lib
set_option linter.unusedVariables false

/-- an item -/
structure It where
  c : Int
  k : Int
  lc : Int
  lk : Int
  rc : Int
  rk : Int
  ch : Int
/-- a run -/
structure Rn where
  c : Int
  k : Int
  lc : Int
  lk : Int
  rc : Int
  rk : Int
  t : List UInt8
def wfI (x : It) : Prop := 0 ≤ x.c ∧ x.c ≤ 4294967295 ∧ 0 ≤ x.k ∧ x.k ≤ 4294967295 ∧ 0 ≤ x.lc ∧ x.lc ≤ 4294967295 ∧ 0 ≤ x.lk ∧ x.lk ≤ 4294967295 ∧ 0 ≤ x.rc ∧ x.rc ≤ 4294967295 ∧ 0 ≤ x.rk ∧ x.rk ≤ 4294967295 ∧ -2147483648 ≤ x.ch ∧ x.ch ≤ 2147483647
def wfR (x : Rn) : Prop := 0 ≤ x.c ∧ x.c ≤ 4294967295 ∧ 0 ≤ x.k ∧ x.k ≤ 4294967295 ∧ 0 ≤ x.lc ∧ x.lc ≤ 4294967295 ∧ 0 ≤ x.lk ∧ x.lk ≤ 4294967295 ∧ 0 ≤ x.rc ∧ x.rc ≤ 4294967295 ∧ 0 ≤ x.rk ∧ x.rk ≤ 4294967295

/-- does y go on from x -/
def onI (x y : It) : Bool := decide (x.c ≠ 0 ∧ x.k + 1 ≤ 4294967294 ∧ y.c = x.c ∧ y.k = x.k + 1 ∧ y.lc = x.c ∧ y.lk = x.k ∧ y.rc = x.rc ∧ y.rk = x.rk)
def nextOn (x : It) : List It → Bool
  | [] => false
  | y :: _ => onI x y
/-- how many, from the first on, are one run's -/
def tog : List It → Nat
  | [] => 0
  | x :: l => if nextOn x l then tog l + 1 else 1
def encAll (l : List It) : List UInt8 := l.flatMap fun x => encodeRune x.ch
def one (x : It) : Rn := ⟨x.c, x.k, x.lc, x.lk, x.rc, x.rk, encodeRune x.ch⟩
def glue (x : It) (r : Rn) : Rn := ⟨x.c, x.k, x.lc, x.lk, x.rc, x.rk, encodeRune x.ch ++ r.t⟩
def addT (r : Rn) (x : It) : Rn := ⟨r.c, r.k, r.lc, r.lk, r.rc, r.rk, r.t ++ encodeRune x.ch⟩
def consR (b : Bool) (x : It) : List Rn → List Rn
  | [] => [one x]
  | r :: rs => if b then glue x r :: rs else one x :: r :: rs
/-- the runs of items -/
def runsOf : List It → List Rn
  | [] => []
  | x :: l => consR (nextOn x l) x (runsOf l)
/-- the run of items, each of which goes on from the one ahead of it -/
def joinR : List It → Rn
  | [] => ⟨0, 0, 0, 0, 0, 0, []⟩
  | x :: l => ⟨x.c, x.k, x.lc, x.lk, x.rc, x.rk, encAll (x :: l)⟩

theorem encAll_cons (x : It) (l : List It) : encAll (x :: l) = encodeRune x.ch ++ encAll l := by simp [encAll]
theorem encAll_append (l m : List It) : encAll (l ++ m) = encAll l ++ encAll m := by simp [encAll]
theorem enc_len (n : Int) : 1 ≤ (encodeRune n).length ∧ (encodeRune n).length ≤ 4 := by
  have := encodeRuneZ_length n
  simpa [encodeRune] using this
theorem encAll_len : ∀ l : List It, (encAll l).length ≤ 4 * l.length
  | [] => by simp [encAll]
  | x :: l => by
    have := encAll_len l
    have := enc_len x.ch
    rw [encAll_cons, List.length_append, List.length_cons]
    omega
theorem tog_le : ∀ l : List It, tog l ≤ l.length
  | [] => Nat.le_refl _
  | x :: l => by
    have := tog_le l
    unfold tog
    split <;> simp only [List.length_cons] <;> omega
theorem tog_pos : ∀ {l : List It}, l ≠ [] → 1 ≤ tog l
  | [], h => absurd rfl h
  | x :: l, _ => by unfold tog; split <;> omega
theorem runs_cons (x : It) (l : List It) : runsOf (x :: l) = consR (nextOn x l) x (runsOf l) := rfl
theorem consR_cons (b : Bool) (x : It) (r : Rn) (rs : List Rn) : consR b x (r :: rs) = if b then glue x r :: rs else one x :: r :: rs := rfl
theorem runs_ne : ∀ {l : List It}, l ≠ [] → runsOf l ≠ []
  | [], h => absurd rfl h
  | x :: l, _ => by
    rw [runs_cons]
    cases runsOf l with
    | nil => simp [consR]
    | cons r rs => rw [consR_cons]; split <;> simp
theorem consR_false (x : It) (rs : List Rn) : consR false x rs = one x :: rs := by cases rs <;> simp [consR]

theorem of_step : ∀ {l : List It}, l ≠ [] → runsOf l = joinR (l.take (tog l)) :: runsOf (l.drop (tog l))
  | [], h => absurd rfl h
  | x :: l, _ => by
    rw [runs_cons, tog]
    cases hn : nextOn x l with
    | false =>
      rw [consR_false]
      simp [joinR, one, encAll]
    | true =>
      have hl : l ≠ [] := by intro e; subst e; simp [nextOn] at hn
      have ih := of_step hl
      rw [ih, consR_cons, if_pos rfl, if_pos rfl, List.take_succ_cons, List.drop_succ_cons]
      cases l with
      | nil => exact absurd rfl hl
      | cons y l =>
        obtain ⟨n, hn⟩ : ∃ n, tog (y :: l) = n + 1 := ⟨tog (y :: l) - 1, by have := tog_pos hl; omega⟩
        rw [hn]
        simp [joinR, glue, encAll]

theorem glue_addT (z : It) (r : Rn) (x : It) : glue z (addT r x) = addT (glue z r) x := by simp [glue, addT]
/-- an item more at the end -/
theorem ref_step : ∀ (l : List It) (y x : It), ∃ rs r, runsOf (l ++ [y]) = rs ++ [r] ∧ runsOf (l ++ [y] ++ [x]) = if onI y x then rs ++ [addT r x] else rs ++ [r] ++ [one x]
  | [], y, x => by
    refine ⟨[], one y, rfl, ?_⟩
    show consR (onI y x) y [one x] = _
    cases onI y x <;> simp [consR, addT, one, glue]
  | z :: l, y, x => by
    obtain ⟨rs, r, h1, h2⟩ := ref_step l y x
    have e1 : nextOn z (l ++ [y] ++ [x]) = nextOn z (l ++ [y]) := by cases l <;> rfl
    have g1 : runsOf (z :: l ++ [y]) = consR (nextOn z (l ++ [y])) z (rs ++ [r]) := by rw [← h1]; rfl
    have g2 : runsOf (z :: l ++ [y] ++ [x]) = consR (nextOn z (l ++ [y])) z (runsOf (l ++ [y] ++ [x])) := by rw [← e1]; rfl
    rw [g1, g2, h2]
    cases hb : nextOn z (l ++ [y]) with
    | false => exact ⟨one z :: rs, r, by rw [consR_false]; rfl, by rw [consR_false]; split <;> rfl⟩
    | true =>
      cases rs with
      | nil =>
        refine ⟨[], glue z r, rfl, ?_⟩
        split <;> simp [consR, glue_addT]
      | cons r0 rs =>
        refine ⟨glue z r0 :: rs, r, by simp [consR], ?_⟩
        split <;> simp [consR]
theorem runs_len : ∀ l : List It, (runsOf l).length ≤ l.length
  | [] => Nat.le_refl _
  | x :: l => by
    have := runs_len l
    rw [runs_cons]
    cases hr : runsOf l with
    | nil => simp [consR]
    | cons r rs =>
      rw [hr] at this
      rw [consR_cons]
      split <;> simp only [List.length_cons] at * <;> omega

/-- a run's items -/
def itemsGo (c k lc lk rc rk : Int) : List Nat → List It
  | [] => []
  | n :: ns => ⟨c, k, lc, lk, rc, rk, n⟩ :: itemsGo c (k + 1) c k rc rk ns
def itemsR (r : Rn) : List It := itemsGo r.c r.k r.lc r.lk r.rc r.rk (runesD r.t)
def itemsOf (l : List Rn) : List It := l.flatMap itemsR
/-- a run may be -/
def mayN (r : Rn) : Bool := decide (validD r.t = true ∧ 0 < (runesD r.t).length ∧ r.c ≠ 0 ∧ r.k + (runesD r.t).length - 1 ≤ 4294967294)
theorem items_cons (r : Rn) (l : List Rn) : itemsOf (r :: l) = itemsR r ++ itemsOf l := by simp [itemsOf]
theorem items_append (l m : List Rn) : itemsOf (l ++ m) = itemsOf l ++ itemsOf m := by simp [itemsOf]
theorem items_one (r : Rn) : itemsOf [r] = itemsR r := by simp [itemsOf]
theorem itemsGo_len (ns : List Nat) : ∀ (c k lc lk rc rk : Int), (itemsGo c k lc lk rc rk ns).length = ns.length := by
  induction ns with
  | nil => intros; rfl
  | cons n ns ih => intros; simp [itemsGo, ih]
theorem itemsR_len (r : Rn) : (itemsR r).length = (runesD r.t).length := itemsGo_len _ _ _ _ _ _ _
theorem runesGo_len : ∀ (n : Nat) (l : List UInt8), (runesGo n l).length ≤ n
  | 0, _ => by simp [runesGo]
  | n + 1, l => by
    unfold runesGo
    split
    · simp
    · have := runesGo_len n (l.drop (decodeL l).2)
      simp only [List.length_cons]
      omega
theorem runesD_len (l : List UInt8) : (runesD l).length ≤ l.length := runesGo_len _ _
theorem runesD_rune (l : List UInt8) : ∀ n ∈ runesD l, n ≤ 1114111 := by
  unfold runesD
  generalize l.length = m
  induction m generalizing l with
  | zero => intro n hn; simp [runesGo] at hn
  | succ m ih =>
    intro n hn
    unfold runesGo at hn
    split at hn
    · cases hn
    · rcases List.mem_cons.1 hn with e | e
      · rw [e]; exact decodeL_rune l
      · exact ih _ n e
theorem runeCount_D (s : ByteArray) : runeCount s = (runesD s.data.toList).length := by
  have key : ∀ (fuel pos : Nat), s.size ≤ pos + fuel → runeCountFrom s fuel pos = (runesD (s.data.toList.drop pos)).length := by
    intro fuel
    induction fuel with
    | zero =>
      intro pos h
      rw [List.drop_eq_nil_of_le (by have : s.data.toList.length = s.size := (size_eq s).symm; omega), runesD_nil]
      rfl
    | succ f ih =>
      intro pos h
      have hsz : s.data.toList.length = s.size := (size_eq s).symm
      unfold runeCountFrom
      by_cases hp : pos < s.size
      · have hw := decode_width_pos s pos hp
        rw [if_pos hp, ih _ (by omega), runesD_step (s.data.toList.drop pos) (drop_ne (by omega)), decodeL_drop, List.length_cons, List.drop_drop]
        omega
      · rw [if_neg hp, List.drop_eq_nil_of_le (by omega), runesD_nil]
        rfl
  have := key s.size 0 (by omega)
  rwa [List.drop_zero] at this

end Go.Proofs.Ytfcoidpkhggnpaa
