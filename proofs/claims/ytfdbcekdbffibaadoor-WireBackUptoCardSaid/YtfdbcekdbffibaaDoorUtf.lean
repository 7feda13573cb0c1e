/-
  The contract of utf8's word of bytes; no claim stands here.
-/
import Derived.Test.YtfdbcekdbffibaaDoorByt
import Derived.Lib.Endian
import Derived.Lib.EndianBits
import Derived.Lib.ValidAsc
import Derived.Laws.BitsAllLaws
import Derived.Deep.QuietTactic
import Derived.Deep.LoopGhost
import Derived.RegionTactic
import Derived.IntWalk
namespace Go.Proofs.YtfdbcekdbffibaaDoor
open Go.ChangeShapes Go.WideShapes Go.ChangeAt Go.RowKit Go.Sort
set_option linter.unusedVariables false

/-- the number that the first eight bytes spell -/
def wordOf (l : List UInt8) : Nat := Lib.leNat (l.take 8)
theorem wordOf_lt (l : List UInt8) : wordOf l < 18446744073709551616 := by
  have h := Lib.leNat_lt (l.take 8)
  refine Nat.lt_of_lt_of_le h ?_
  calc 256 ^ (l.take 8).length ≤ 256 ^ 8 := Nat.pow_le_pow_right (by omega) (by rw [List.length_take]; omega)
    _ = 18446744073709551616 := by rfl
theorem wordOf_asc {l : List UInt8} (h : 8 ≤ l.length) : wordOf l &&& 9259542123273814144 = 0 ↔ ∀ b ∈ l.take 8, b.toNat < 128 := by
  have h8 : (l.take 8).length = 8 := by rw [List.length_take]; omega
  have := Lib.leNat_mask (l.take 8)
  rw [h8, Lib.maskN8] at this
  exact this

set_option maxHeartbeats 8000000 in
set_option maxRecDepth 100000 in
theorem word_any (b o n c : Nat) (l : List UInt8) (w : World) (hb : Bys w (some ⟨b, o, none⟩) l) (hl : l.length = n) (h8 : 8 ≤ n) (hn : n ≤ 30000) :
    Calls Tryd.prog 19 #[.slice (some ⟨b, o, none⟩) n c] w fun e w' => e = .returned (.int .u64 (wordOf l)) ∧ ∃ q, w' = w.drewN q := by
  have c0 := hb.all 0 (by omega)
  have c1 := hb.all 1 (by omega)
  have c2 := hb.all 2 (by omega)
  have c3 := hb.all 3 (by omega)
  have c4 := hb.all 4 (by omega)
  have c5 := hb.all 5 (by omega)
  have c6 := hb.all 6 (by omega)
  have c7 := hb.all 7 (by omega)
  rw [Nat.add_zero] at c0
  have hw : wordOf l = Lib.leNat [l.getD 0 0, l.getD 1 0, l.getD 2 0, l.getD 3 0, l.getD 4 0, l.getD 5 0, l.getD 6 0, l.getD 7 0] := by
    unfold wordOf
    subst hl
    match l, h8 with
    | a0 :: a1 :: a2 :: a3 :: a4 :: a5 :: a6 :: a7 :: r, _ => simp
  rw [hw]
  clear hw hb hl
  have t0 := (l.getD 0 0).toNat_lt
  have t1 := (l.getD 1 0).toNat_lt
  have t2 := (l.getD 2 0).toNat_lt
  have t3 := (l.getD 3 0).toNat_lt
  have t4 := (l.getD 4 0).toNat_lt
  have t5 := (l.getD 5 0).toNat_lt
  have t6 := (l.getD 6 0).toNat_lt
  have t7 := (l.getD 7 0).toNat_lt
  generalize l.getD 0 0 = x0 at *
  generalize l.getD 1 0 = x1 at *
  generalize l.getD 2 0 = x2 at *
  generalize l.getD 3 0 = x3 at *
  generalize l.getD 4 0 = x4 at *
  generalize l.getD 5 0 = x5 at *
  generalize l.getD 6 0 = x6 at *
  generalize l.getD 7 0 = x7 at *
  have hv : ((Lib.leNat [x0, x1, x2, x3, x4, x5, x6, x7] : Nat) : Int) = (x0.toNat : Int) + (x1.toNat : Int) * 256 + (x2.toNat : Int) * 65536 + (x3.toNat : Int) * 16777216 + (x4.toNat : Int) * 4294967296 + (x5.toNat : Int) * 1099511627776 + (x6.toNat : Int) * 281474976710656 + (x7.toNat : Int) * 72057594037927936 := by
    simp only [Lib.leNat]
    push_cast
    omega
  go_enter Tryd.func19, Tryd.ntmps19
  go_wp2
  go_quiet (fail)
  go_wp2
  go_ret
  refine ⟨?_, _, rfl⟩
  simp (disch := omega) only [u64_wrap_id, u64_or8, u64_or16, u64_or24, u64_or32, u64_or40, u64_or48, u64_or56]
  rw [hv]
  rfl

end Go.Proofs.YtfdbcekdbffibaaDoor
