/-
  Items and runs, in plain lists: no memory; no claim stands here.
-/
import Derived.Test.YtdpmhhfpjpdfiaaChMath
import Derived.Lib.RuneBytes
import Derived.Lib.RuneCount
namespace Go.Proofs.Ytdpmhhfpjpdfiaa
open Go.Lib
set_option linter.unusedVariables false

structure It where
  c : Int
  k : Int
  lc : Int
  lk : Int
  rc : Int
  rk : Int
  ch : Int
structure Rn where
  c : Int
  k : Int
  lc : Int
  lk : Int
  rc : Int
  rk : Int
  t : List UInt8
def wfI (x : It) : Prop := 0 ≤ x.c ∧ x.c ≤ 4294967295 ∧ 0 ≤ x.k ∧ x.k ≤ 4294967295 ∧ 0 ≤ x.lc ∧ x.lc ≤ 4294967295 ∧ 0 ≤ x.lk ∧ x.lk ≤ 4294967295 ∧ 0 ≤ x.rc ∧ x.rc ≤ 4294967295 ∧ 0 ≤ x.rk ∧ x.rk ≤ 4294967295 ∧ -2147483648 ≤ x.ch ∧ x.ch ≤ 2147483647
def one (x : It) : Rn := ⟨x.c, x.k, x.lc, x.lk, x.rc, x.rk, encodeRune x.ch⟩
end Go.Proofs.Ytdpmhhfpjpdfiaa
