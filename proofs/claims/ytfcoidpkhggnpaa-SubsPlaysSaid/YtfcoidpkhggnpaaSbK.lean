/-
  What the laws of layer 13 ask of subs; two lists of messages that are the same; the example at the head of these laws; no claim stands here.
-/
import Derived.Test.YtfcoidpkhggnpaaSbR
import Derived.Test.YtfcoidpkhggnpaaErr
import Derived.Test.YtfcoidpkhggnpaaTPk
namespace Go.Proofs.Ytfcoidpkhggnpaa
open Go.ChangeShapes Go.WideShapes Go.ChangeAt Go.RowKit Go.Sort
set_option linter.unusedVariables false
attribute [local go_sem] World.cell?_alloc_some

/-- what the laws of layer 13 ask of subs -/
structure SbK where
  Q : World → Value → Nat → List Ms → Bool → (Nat → Prop) → Prop
  w : QuW 12 10 Q
  new : ∀ (room : Int) (W : World), -9223372036854775808 ≤ room → room ≤ 9223372036854775807 → Calls Try.prog 6 #[Vi room] W fun e W' =>
    ((1 ≤ room ∧ room ≤ 1000 → ∃ ad S, e = .returned (.tuple #[.pointer (some ad), errv 0]) ∧ Q W' (.pointer (some ad)) room.toNat [] false S ∧ ∀ b, S b → W.heap.size ≤ b) ∧ (¬ (1 ≤ room ∧ room ≤ 1000) → e = .returned (.tuple #[.pointer none, errv 1]))) ∧ Ext W W'
  len : ∀ {W p k l g S}, Q W p k l g S → l.length ≤ 1000 → Calls Try.prog 14 #[p] W fun e W' => e = .returned (Vi (l.length : Int)) ∧ Ext W W'

theorem ms_neq (x : Ms) (W : World) : (binOp .neq 38 (msv x) (msv x)).run Try.prog W = .ok (.bool false) W := by
  simp [go_sem]

set_option maxRecDepth 100000 in
set_option maxHeartbeats 4000000 in
theorem sameM_any (A B : Option Addr) (n cap cap' : Nat) (l : List Ms) (w : World) (hv : MsS w A l) (hu : MsS w B l) (hn : l.length = n) (hb : n ≤ 100000) :
    Calls Try.prog 9 #[.slice A n cap, .slice B n cap'] w fun e w' => e = .returned (Vi 1) ∧ Ext w w' := by
  replace hn := Lib.hid hn
  replace hv := Lib.hid hv
  replace hu := Lib.hid hu
  go_enter Try.func9, Try.ntmps9
  go_wp2
  go_loopw [5] (fun i W => ∃ (k : Nat), k ≤ n ∧ i = .int .i64 k ∧ Ext w W) (fun i _ => n - (intOf i).toNat)
  case atStart => exact ⟨0, Nat.zero_le _, rfl, Ext.refl _⟩
  case round =>
    obtain ⟨k, hk, rfl, hx⟩ := hrel
    by_cases hlt : k < n
    · obtain ⟨b, o, x, rfl, hp, c⟩ := (hv.out.ext hx).at (k := k) (by rw [hn.out]; exact hlt)
      obtain ⟨b', o', x', rfl, hp', c'⟩ := (hu.out.ext hx).at (k := k) (by rw [hn.out]; exact hlt)
      rw [hp] at hp'
      injection hp' with hp'
      subst hp'
      clear hp
      obtain ⟨c0, c1, c2, c3, c4, c5⟩ := c
      obtain ⟨d0, d1, d2, d3, d4, d5⟩ := c'
      have hnq := ms_neq x
      go_wp2
      go_quiet (fail)
      go_wp2
      go_roundw
      case rel => exact ⟨k + 1, by omega, by go_num, hx.drewN _⟩
      case measure => simp [intOf]; omega
    · go_wp2
      go_ret
      exact ⟨rfl, hx⟩

/-- a queue above a world: what was there stays -/
def AbQ (w : World) (S : Nat → Prop) : Prop := ∀ b, S b → w.heap.size ≤ b
theorem AbQ.next {w W W' : World} {S S' : Nat → Prop} (h : AbQ w S) (hx : Ext w W) (ht : TSb S W W') (hb : ∀ b, S' b → S b ∨ W.heap.size ≤ b) : AbQ w S' ∧ Ext w W' :=
  ⟨fun b hs => (hb b hs).elim (h b) (Nat.le_trans hx.size), ht.down hx h⟩

def m13a : Ms := ⟨1, false, [], 0, 0, []⟩
def m13b : Ms := ⟨2, false, [], 0, 0, []⟩
def m13c : Ms := ⟨3, true, [97], 0, 0, []⟩
set_option maxRecDepth 100000 in
set_option maxHeartbeats 4000000 in
theorem up13_any (K : SbK) (w : World) : Calls Try.prog 5 #[] w fun e w' => e = .returned (.bool true) ∧ Ext w w' := by
  have hz0 : errv 0 = .nilIface := by simp [errv]
  have hz1 : errv 1 = .iface 47 (.int .i64 1) := by simp [errv]
  have hcode := Lib.hid (fun W => code_any 1 W (by omega) (by omega))
  go_enter Try.func5, Try.ntmps5
  go_wp2_with fail
  refine (K.new 1 w (by omega) (by omega)).mono ?_
  rintro e w1 ⟨⟨h, _⟩, x1⟩
  obtain ⟨ad, S1, rfl, q1, s1⟩ := h (by omega)
  rw [hz0]
  clear h
  go_wp2_with fail
  refine (K.new 0 w1 (by omega) (by omega)).mono ?_
  rintro e w2 ⟨⟨_, h⟩, x2⟩
  obtain rfl := h (by omega)
  rw [hz1]
  clear h
  have q2 := K.w.ext q1 x2
  replace x2 := x1.trans x2
  have s1' : AbQ w S1 := s1
  clear q1 x1 s1
  go_wp2_with fail
  refine (K.w.push m13a ⟨by decide, by decide⟩ q2 (by simp) (by decide)).mono ?_
  rintro e w3 ⟨rfl, S2, q3, t3, b3⟩
  obtain ⟨s2, x3⟩ := s1'.next x2 t3 b3
  rw [show okP (1 : Int).toNat [] false = true from rfl]
  rw [show nxL (1 : Int).toNat [] false m13a = [m13a] from rfl, show nxG (1 : Int).toNat [] false = false from rfl] at q3
  clear q2 x2 t3 b3 s1'
  go_wp2_with fail
  refine (K.w.push m13b ⟨by decide, by decide⟩ q3 (by simp) (by decide)).mono ?_
  rintro e w4 ⟨rfl, S3, q4, t4, b4⟩
  obtain ⟨s3, x4⟩ := s2.next x3 t4 b4
  rw [show okP (1 : Int).toNat [m13a] false = false from rfl]
  rw [show nxL (1 : Int).toNat [m13a] false m13b = [m13a] from rfl, show nxG (1 : Int).toNat [m13a] false = true from rfl] at q4
  clear q3 x3 t4 b4 s2
  go_wp2_with fail
  refine (K.w.drain 3 [97] (by decide) q4 (by simp)).mono ?_
  rintro e w5 ⟨A, c, S4, rfl, hA, _, _, t5, b5⟩
  obtain ⟨_, x5⟩ := s3.next x4 t5 b5
  rw [show outQ [m13a] true 3 [97] = [m13a, m13c] from rfl] at hA ⊢
  clear q4 x4 t5 b5 s3
  obtain ⟨b, o, y, rfl, hy, c0, c1, c2, c3, c4, c5⟩ := hA.at (k := 0) (by simp)
  obtain rfl : m13a = y := by simpa using hy
  obtain ⟨b', o', y', e', hy', d0, d1, d2, d3, d4, d5⟩ := hA.at (k := 1) (by simp)
  obtain rfl : m13c = y' := by simpa using hy'
  injection e' with e'
  injection e' with e1 e2 _
  subst e1
  subst e2
  simp only [Nat.zero_mul, Nat.add_zero, Nat.one_mul] at c0 d0 d1 d2 d3 d4 d5
  simp only [m13a, m13c] at c0 d0 d1 d2 d3 d4 d5
  have he : ∀ W : World, (binOp .eql 38 (.agg #[Vi 3, .bool true, .string ⟨#[97]⟩, Vi 0, Vi 0, .string ⟨#[]⟩]) (.agg #[Vi 3, .bool true, .string ⟨#[97]⟩, Vi 0, Vi 0, .string ⟨#[]⟩])).run Try.prog W = .ok (.bool true) W := fun W => by simp [go_sem]
  replace d2 : w5.cell? ⟨b, o + 6 + 2, none⟩ = some (.string ⟨#[97]⟩) := d2
  replace d5 : w5.cell? ⟨b, o + 6 + 5, none⟩ = some (.string ⟨#[]⟩) := d5
  clear c1 c2 c3 c4 c5 hy hy' hA
  rw [show [m13a, m13c].length = 2 from rfl]
  rw [hz1] at hcode
  clear hz0 hz1
  go_wp2_with fail
  refine (hcode.out _).mono ?_
  rintro e w6 ⟨rfl, rfl⟩
  go_wp2
  go_ret
  exact ⟨rfl, x5⟩

end Go.Proofs.Ytfcoidpkhggnpaa
