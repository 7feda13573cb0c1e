/-
  Spans in memory, and the contracts of the small functions of ranges; no claim stands here.
-/
import Derived.Test.YtiacfkipkbjmjaaMem
import Derived.Test.YtiacfkipkbjmjaaRMath
import Derived.Test.YtiacfkipkbjmjaaCmp
import Derived.Deep.QuietTactic
import Derived.Deep.LoopGhost
import Derived.Deep.RegionWith
import Derived.RegionTactic
import Derived.IntWalk
namespace Go.Proofs.Ytiacfkipkbjmjaa
open Go.ChangeShapes Go.WideShapes Go.ChangeAt Go.RowKit Go.Sort
set_option linter.unusedVariables false

/-- the cells of a span -/
def encS (p : Int × Int × Int) : List Value := [Vu p.1, Vu p.2.1, Vu p.2.2]
abbrev spv (x y z : Int) : Value := .agg #[.int .u32 x, .int .u32 y, .int .u32 z]
theorem encS_len (p : Int × Int × Int) : (encS p).length = 3 := rfl
theorem encS_one (p : Int × Int × Int) : ∀ u ∈ encS p, u.oneCell' = true := by intro u hu; simp [encS] at hu; rcases hu with rfl | rfl | rfl <;> rfl
/-- a slice's address, from which spans lie -/
def SpS (w : World) (A : Option Addr) (l : List (Int × Int × Int)) : Prop := Row w A (flat encS l)
theorem SpS.ext {w w' : World} {A : Option Addr} {l : List (Int × Int × Int)} (h : SpS w A l) (hx : Ext w w') : SpS w' A l := Row.ext h hx
theorem SpS.nil (w : World) (A : Option Addr) : SpS w A [] := Row.nil w A
theorem SpS.at {w : World} {A : Option Addr} {l : List (Int × Int × Int)} (h : SpS w A l) {k : Nat} (hk : k < l.length) :
    ∃ b o x y z, A = some ⟨b, o, none⟩ ∧ l[k]? = some (x, y, z) ∧ w.cell? ⟨b, o + k * 3, none⟩ = some (Vu x) ∧ w.cell? ⟨b, o + k * 3 + 1, none⟩ = some (Vu y) ∧ w.cell? ⟨b, o + k * 3 + 2, none⟩ = some (Vu z) := by
  obtain ⟨⟨x, y, z⟩, hp⟩ : ∃ p, l[k]? = some p := ⟨l[k], List.getElem?_eq_getElem hk⟩
  obtain ⟨b, o, e, hc⟩ := Row.at h encS_len hp (by omega)
  exact ⟨b, o, x, y, z, e, hp, hc 0 _ rfl, hc 1 _ rfl, hc 2 _ rfl⟩
theorem wfS_at {l : List (Int × Int × Int)} (hw : wfS l) {k : Nat} {x y z : Int} (h : l[k]? = some (x, y, z)) : 0 ≤ x ∧ x ≤ 4294967295 ∧ 0 ≤ y ∧ y ≤ 4294967295 ∧ 0 ≤ z ∧ z ≤ 4294967295 := hw (x, y, z) (List.mem_of_getElem? h)

theorem empty_any (x y z : Int) (w : World) (hx : 0 ≤ x) : Calls Try.prog 17 #[spv x y z] w fun e w' => e = .returned (.bool (!goodB (x, y, z))) ∧ Ext w w' := by
  by_cases h0 : x = 0
  · subst h0
    have hg := Lib.hid (show (!goodB (0, y, z)) = true by simp [goodB])
    go_enter Try.func17, Try.ntmps17
    go_wp2
    go_ret
    exact ⟨ret_bool (a := true) hg.out.symm, (Ext.refl _).alloc _⟩
  · have h0' : (x == 0) = false := by simpa using h0
    have hg := Lib.hid (show (!goodB (x, y, z)) = decide (z ≤ y) by
      rw [Bool.eq_iff_iff]; simp [goodB]; omega)
    clear h0 hx
    go_enter Try.func17, Try.ntmps17
    go_wp2
    go_ret
    exact ⟨ret_bool (a := decide (z ≤ y)) hg.out.symm, (Ext.refl _).alloc _⟩

theorem apart_any (x y z x' y' z' : Int) (w : World) : Calls Try.prog 21 #[spv x y z, spv x' y' z'] w fun e w' => e = .returned (.bool (apartB (x, y, z) (x', y', z'))) ∧ Ext w w' := by
  by_cases h0 : x = x'
  · subst h0
    have hg := Lib.hid (show apartB (x, y, z) (x, y', z') = decide (z < y') by simp [apartB])
    go_enter Try.func21, Try.ntmps21
    go_wp2
    go_ret
    exact ⟨ret_bool (a := decide (z < y')) hg.out.symm, ((Ext.refl _).alloc _).alloc _⟩
  · have h0' : (x != x') = true := by simpa using h0
    have hg := Lib.hid (show apartB (x, y, z) (x', y', z') = decide (x < x') by simp [apartB, h0])
    clear h0
    go_enter Try.func21, Try.ntmps21
    go_wp2
    go_ret
    exact ⟨ret_bool (a := decide (x < x')) hg.out.symm, ((Ext.refl _).alloc _).alloc _⟩

theorem side_any (x y z c k : Int) (w : World) : Calls Try.prog 23 #[spv x y z, idv c k] w fun e w' => e = .returned (Vi (sideOf (x, y, z) c k)) ∧ Ext w w' := by
  by_cases h0 : x = c
  · subst h0
    by_cases h1 : z ≤ k
    · have hg := Lib.hid (show sideOf (x, y, z) x k = -1 by simp [sideOf, h1])
      go_enter Try.func23, Try.ntmps23
      go_wp2
      go_ret
      exact ⟨ret_i64 (a := -1) hg.out.symm, ((Ext.refl _).alloc _).alloc _⟩
    · have h1' : decide (z ≤ k) = false := by simpa using h1
      by_cases h2 : k < y
      · have hg := Lib.hid (show sideOf (x, y, z) x k = 1 by simp [sideOf, h1, h2])
        clear h1
        go_enter Try.func23, Try.ntmps23
        go_wp2
        go_ret
        exact ⟨ret_i64 (a := 1) hg.out.symm, ((Ext.refl _).alloc _).alloc _⟩
      · have h2' : decide (k < y) = false := by simpa using h2
        have hg := Lib.hid (show sideOf (x, y, z) x k = 0 by simp [sideOf, h1, h2])
        clear h1 h2
        go_enter Try.func23, Try.ntmps23
        go_wp2
        go_ret
        exact ⟨ret_i64 (a := 0) hg.out.symm, ((Ext.refl _).alloc _).alloc _⟩
  · have h0' : (x != c) = true := by simpa using h0
    have hg := Lib.hid (show cmpI x c = sideOf (x, y, z) c k by unfold cmpI sideOf; (repeat' split) <;> simp_all <;> omega)
    clear h0
    go_enter Try.func23, Try.ntmps23
    go_wp2_with (go_at_call 27; refine (compare_any _ _ _).mono ?_; rintro e w' ⟨rfl, rfl⟩)
    go_ret
    exact ⟨ret_i64 (a := cmpI x c) hg.out, ((Ext.refl _).alloc _).alloc _⟩

/-- cmp.Or of two numbers -/
def orI (a b : Int) : Int := if a = 0 then b else a
set_option maxHeartbeats 400000 in
theorem or_any (b o cap : Nat) (p q : Int) (w : World) (h0 : w.cell? ⟨b, o, none⟩ = some (Vi p)) (h1 : w.cell? ⟨b, o + 1, none⟩ = some (Vi q)) :
    Calls Try.prog 26 #[.slice (some ⟨b, o, none⟩) 2 cap] w fun e w' => e = .returned (Vi (orI p q)) ∧ w = w' := by
  go_enter Try.func26, Try.ntmps26
  go_wp2
  go_loop [8] (fun i => ∃ k : Nat, k ≤ 2 ∧ i = .int .i64 k ∧ Hid ((0 < k → p = 0) ∧ (1 < k → q = 0))) (fun i => 2 - (intOf i).toNat)
  case atStart => exact ⟨0, by omega, rfl, Lib.hid ⟨by omega, by omega⟩⟩
  case round =>
    obtain ⟨k, hk, rfl, hrel⟩ := hrel
    match k, hk with
    | 0, _ =>
      by_cases hp : p = 0
      · subst hp
        go_wp2
        go_round
        case rel => exact ⟨1, by omega, rfl, Lib.hid ⟨fun _ => by trivial, by omega⟩⟩
        case measure => simp [intOf]
      · have hp' : (p != 0) = true := by simpa using hp
        have hg := Lib.hid (show p = orI p q by simp [orI, hp])
        clear hp
        go_wp2
        go_ret
        exact ⟨ret_i64 (a := p) hg.out, rfl⟩
    | 1, _ =>
      obtain rfl : p = 0 := hrel.out.1 (by omega)
      by_cases hq : q = 0
      · subst hq
        go_wp2
        go_round
        case rel => exact ⟨2, by omega, rfl, Lib.hid ⟨fun _ => by trivial, fun _ => by trivial⟩⟩
        case measure => simp [intOf]
      · have hq' : (q != 0) = true := by simpa using hq
        go_wp2
        go_ret
        exact ⟨ret_i64 (a := q) (by simp [orI]), rfl⟩
    | 2, _ =>
      obtain rfl : p = 0 := hrel.out.1 (by omega)
      obtain rfl : q = 0 := hrel.out.2 (by omega)
      go_wp2
      go_ret
      exact ⟨ret_i64 (a := 0) (by simp [orI]), rfl⟩

end Go.Proofs.Ytiacfkipkbjmjaa
