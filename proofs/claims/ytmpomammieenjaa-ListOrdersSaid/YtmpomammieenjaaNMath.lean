/-
  Items and runs, in plain lists: no memory; no claim stands here.
-/
import Derived.Test.YtmpomammieenjaaChMath
import Derived.Lib.RuneBytes
import Derived.Lib.RuneCount
namespace Go.Proofs.Ytmpomammieenjaa
open Go.Lib
set_option linter.unusedVariables false

structure It where
  c : Int
  k : Int
  lc : Int
  lk : Int
  rc : Int
  rk : Int
  ch : Int
structure Rn where
  c : Int
  k : Int
  lc : Int
  lk : Int
  rc : Int
  rk : Int
  t : List UInt8
def wfI (x : It) : Prop := 0 ≤ x.c ∧ x.c ≤ 4294967295 ∧ 0 ≤ x.k ∧ x.k ≤ 4294967295 ∧ 0 ≤ x.lc ∧ x.lc ≤ 4294967295 ∧ 0 ≤ x.lk ∧ x.lk ≤ 4294967295 ∧ 0 ≤ x.rc ∧ x.rc ≤ 4294967295 ∧ 0 ≤ x.rk ∧ x.rk ≤ 4294967295 ∧ -2147483648 ≤ x.ch ∧ x.ch ≤ 2147483647
def encAll (l : List It) : List UInt8 := l.flatMap fun x => encodeRune x.ch
def one (x : It) : Rn := ⟨x.c, x.k, x.lc, x.lk, x.rc, x.rk, encodeRune x.ch⟩
theorem encAll_cons (x : It) (l : List It) : encAll (x :: l) = encodeRune x.ch ++ encAll l := by simp [encAll]
theorem enc_len (n : Int) : 1 ≤ (encodeRune n).length ∧ (encodeRune n).length ≤ 4 := by
  have := encodeRuneZ_length n
  simpa [encodeRune] using this
theorem encAll_len : ∀ l : List It, (encAll l).length ≤ 4 * l.length
  | [] => by simp [encAll]
  | x :: l => by
    have := encAll_len l
    have := enc_len x.ch
    rw [encAll_cons, List.length_append, List.length_cons]
    omega
end Go.Proofs.Ytmpomammieenjaa
