/-
  Contracts of the functions of vector, and of the reference's; no claim stands here.
-/
import Derived.Test.YtbniojfggiioaaaMem
import Derived.Test.YtbniojfggiioaaaVMath
import Derived.Deep.QuietTactic
import Derived.Deep.LoopGhost
import Derived.RegionTactic
import Derived.IntWalk
namespace Go.Proofs.Ytbniojfggiioaaa
open Go.ChangeShapes Go.WideShapes Go.ChangeAt Go.RowKit Go.Sort
set_option linter.unusedVariables false

/-- the cells of a clock -/
def encC (p : Int × Int) : List Value := [Vu p.1, Vu p.2]
theorem encC_len (p : Int × Int) : (encC p).length = 2 := rfl
theorem encC_one (p : Int × Int) : ∀ u ∈ encC p, u.oneCell' = true := by intro u hu; simp [encC] at hu; rcases hu with rfl | rfl <;> rfl
/-- a slice's address, from which clocks lie -/
def Vec (w : World) (A : Option Addr) (l : List (Int × Int)) : Prop := Row w A (flat encC l)
theorem Vec.ext {w w' : World} {A : Option Addr} {l : List (Int × Int)} (h : Vec w A l) (hx : Ext w w') : Vec w' A l := Row.ext h hx
theorem Vec.nil (w : World) (A : Option Addr) : Vec w A [] := Row.nil w A
theorem Vec.at {w : World} {A : Option Addr} {l : List (Int × Int)} (h : Vec w A l) {k : Nat} (hk : k < l.length) :
    ∃ b o x y, A = some ⟨b, o, none⟩ ∧ l[k]? = some (x, y) ∧ w.cell? ⟨b, o + k * 2, none⟩ = some (Vu x) ∧ w.cell? ⟨b, o + k * 2 + 1, none⟩ = some (Vu y) := by
  obtain ⟨⟨x, y⟩, hp⟩ : ∃ p, l[k]? = some p := ⟨l[k], List.getElem?_eq_getElem hk⟩
  obtain ⟨b, o, e, hc⟩ := Row.at h encC_len hp (by omega)
  exact ⟨b, o, x, y, e, hp, hc 0 _ rfl, hc 1 _ rfl⟩

theorem next_drop {l : List (Int × Int)} {k : Nat} {x y : Int} (h : l[k]? = some (x, y)) (c : Int) : nextOf (l.drop k) c = if x = c then y else nextOf (l.drop (k + 1)) c := by
  obtain ⟨hk, e⟩ := List.getElem?_eq_some_iff.1 h
  rw [List.drop_eq_getElem_cons hk, e, nextOf]

set_option maxHeartbeats 400000 in
theorem nextRef_any (A : Option Addr) (n cap : Nat) (l : List (Int × Int)) (c : Int) (w : World) (hv : Vec w A l) (hn : l.length = n) (hb : n ≤ 1000) :
    Calls Try.prog 14 #[.slice A n cap, Vu c] w fun e w' => e = .returned (Vu (nextOf l c)) ∧ w = w' := by
  replace hn := Lib.hid hn
  replace hv := Lib.hid hv
  go_enter Try.func14, Try.ntmps14
  go_wp2
  go_loop [5] (fun i => ∃ k : Nat, k ≤ n ∧ i = .int .i64 k ∧ Hid (nextOf l c = nextOf (l.drop k) c)) (fun i => n - (intOf i).toNat)
  case atStart => exact ⟨0, Nat.zero_le _, rfl, Lib.hid (by simp)⟩
  case round =>
    obtain ⟨k, hk, rfl, hrel⟩ := hrel
    by_cases hlt : k < n
    · obtain ⟨b, o, x, y, rfl, hp, c0, c1⟩ := hv.out.at (k := k) (by rw [hn.out]; exact hlt)
      by_cases hx : x = c
      · subst hx
        have hd := Lib.hid (show nextOf (l.drop k) x = y by rw [next_drop hp, if_pos rfl])
        clear hp
        go_wp2
        go_ret
        exact ⟨ret_u32 (a := y) (by rw [hrel.out, hd.out]), rfl⟩
      · have hx' : (x == c) = false := by simpa using hx
        have hd := Lib.hid (show nextOf (l.drop k) c = nextOf (l.drop (k + 1)) c by rw [next_drop hp, if_neg hx])
        clear hp hx
        go_wp2
        go_round
        case rel => exact ⟨k + 1, by omega, by go_num, Lib.hid (by rw [hrel.out, hd.out])⟩
        case measure => simp [intOf]; omega
    · have hz := Lib.hid (show l.drop k = [] from List.drop_eq_nil_of_le (by rw [hn.out]; omega))
      go_wp2
      go_ret
      exact ⟨ret_u32 (a := 0) (by rw [hrel.out, hz.out]; rfl), rfl⟩

def ahead (l : List (Int × Int)) : Nat → Int
  | 0 => 0
  | k + 1 => ((l[k]?).getD (0, 0)).1
theorem may_drop {l : List (Int × Int)} {k : Nat} {x y : Int} (h : l[k]? = some (x, y)) (a : Int) : mayFrom a (l.drop k) = (decide (a < x ∧ 0 < y) && mayFrom x (l.drop (k + 1))) := by
  obtain ⟨hk, e⟩ := List.getElem?_eq_some_iff.1 h
  rw [List.drop_eq_getElem_cons hk, e, mayFrom]
theorem may_end {l : List (Int × Int)} {k : Nat} (h : l.length ≤ k) (a : Int) : mayFrom a (l.drop k) = true := by
  rw [List.drop_eq_nil_of_le h]; rfl
theorem ahead_succ {l : List (Int × Int)} {k : Nat} {x y : Int} (h : l[k]? = some (x, y)) : ahead l (k + 1) = x := by simp [ahead, h]
theorem wf_at {l : List (Int × Int)} (hw : wfC l) {k : Nat} {x y : Int} (h : l[k]? = some (x, y)) : 0 ≤ x ∧ x ≤ 4294967295 ∧ 0 ≤ y ∧ y ≤ 4294967295 := hw (x, y) (List.mem_of_getElem? h)
theorem ahead_nonneg {l : List (Int × Int)} (hw : wfC l) (k : Nat) : 0 ≤ ahead l k := by
  cases k with
  | zero => simp [ahead]
  | succ k =>
    cases h : l[k]? with
    | none => simp [ahead, h]
    | some p => rw [ahead_succ (x := p.1) (y := p.2) h]; exact (wf_at hw (x := p.1) (y := p.2) h).1

set_option maxHeartbeats 1000000 in
theorem may_any (A : Option Addr) (n cap : Nat) (l : List (Int × Int)) (w : World) (hv : Vec w A l) (hn : l.length = n) (hw : wfC l) (hb : n ≤ 1000) :
    Calls Try.prog 7 #[.slice A n cap] w fun e w' => e = .returned (.bool (mayFrom 0 l)) ∧ Ext w w' := by
  replace hn := Lib.hid hn
  replace hv := Lib.hid hv
  replace hw := Lib.hid hw
  go_enter Try.func7, Try.ntmps7
  go_wp2
  go_loopw [3, 8] (fun t i W => ∃ (k : Nat) (a : Int), k ≤ n ∧ i = .int .i64 k ∧ t = .int .u32 a ∧ 0 ≤ a ∧ Hid (mayFrom 0 l = mayFrom a (l.drop k)) ∧ Ext w W) (fun _ i _ => n - (intOf i).toNat)
  case atStart => exact ⟨0, 0, Nat.zero_le _, rfl, rfl, by omega, Lib.hid (by simp), Ext.refl _⟩
  case round =>
    obtain ⟨k, a, hk, rfl, rfl, ha, hrel, hx⟩ := hrel
    by_cases hlt : k < n
    · obtain ⟨b, o, x, y, rfl, hp, c0, c1⟩ := (hv.out.ext hx).at (k := k) (by rw [hn.out]; exact hlt)
      have hwf := wf_at hw.out hp
      by_cases hax : a < x
      · by_cases hy : 0 < y
        · have hd := Lib.hid (show mayFrom a (l.drop k) = mayFrom x (l.drop (k + 1)) by rw [may_drop hp, decide_eq_true ⟨hax, hy⟩, Bool.true_and])
          have h1 : decide (x ≤ a) = false := by simp; omega
          have h2 : (y == 0) = false := by simp; omega
          clear hp
          go_wp2
          go_roundw
          case rel => exact ⟨k + 1, x, by omega, by go_num, rfl, by omega, Lib.hid (by rw [hrel.out, hd.out]), hx.alloc _⟩
          case measure => simp [intOf]; omega
        · have hd := Lib.hid (show mayFrom a (l.drop k) = false by rw [may_drop hp, decide_eq_false (by omega), Bool.false_and])
          have h1 : decide (x ≤ a) = false := by simp; omega
          obtain rfl : y = 0 := by omega
          clear hp
          go_wp2
          go_ret
          exact ⟨ret_bool (a := false) (by rw [hrel.out, hd.out]), hx.alloc _⟩
      · have hd := Lib.hid (show mayFrom a (l.drop k) = false by rw [may_drop hp, decide_eq_false (by omega), Bool.false_and])
        have h1 : decide (x ≤ a) = true := by simp; omega
        clear hp
        go_wp2
        go_ret
        exact ⟨ret_bool (a := false) (by rw [hrel.out, hd.out]), hx.alloc _⟩
    · have hz := Lib.hid (show mayFrom a (l.drop k) = true from may_end (by rw [hn.out]; omega) a)
      go_wp2
      go_ret
      exact ⟨ret_bool (a := true) (by rw [hrel.out, hz.out]), hx⟩

set_option maxHeartbeats 1000000 in
theorem mayRef_any (A : Option Addr) (n cap : Nat) (l : List (Int × Int)) (w : World) (hv : Vec w A l) (hn : l.length = n) (hw : wfC l) (hb : n ≤ 1000) :
    Calls Try.prog 6 #[.slice A n cap] w fun e w' => e = .returned (.bool (mayFrom 0 l)) ∧ Ext w w' := by
  replace hn := Lib.hid hn
  replace hv := Lib.hid hv
  replace hw := Lib.hid hw
  go_enter Try.func6, Try.ntmps6
  go_wp2
  go_loopw [3] (fun i W => ∃ (k : Nat), k ≤ n ∧ i = .int .i64 k ∧ Hid (mayFrom 0 l = mayFrom (ahead l k) (l.drop k)) ∧ Ext w W) (fun i _ => n - (intOf i).toNat)
  case atStart => exact ⟨0, Nat.zero_le _, rfl, Lib.hid (by simp [ahead]), Ext.refl _⟩
  case round =>
    obtain ⟨k, hk, rfl, hrel, hx⟩ := hrel
    by_cases hlt : k < n
    · obtain ⟨b, o, x, y, rfl, hp, c0, c1⟩ := (hv.out.ext hx).at (k := k) (by rw [hn.out]; exact hlt)
      have hwf := wf_at hw.out hp
      have ha := ahead_nonneg hw.out k
      by_cases h0 : x = 0
      · subst h0
        have hd := Lib.hid (show mayFrom (ahead l k) (l.drop k) = false by rw [may_drop hp, decide_eq_false (by omega), Bool.false_and])
        clear hp ha
        go_wp2
        go_ret
        exact ⟨ret_bool (a := false) (by rw [hrel.out, hd.out]), hx⟩
      · have h0' : (x == 0) = false := by simpa using h0
        by_cases h1 : y = 0
        · subst h1
          have hd := Lib.hid (show mayFrom (ahead l k) (l.drop k) = false by rw [may_drop hp, decide_eq_false (by omega), Bool.false_and])
          clear hp ha
          go_wp2
          go_ret
          exact ⟨ret_bool (a := false) (by rw [hrel.out, hd.out]), hx⟩
        · have h1' : (y == 0) = false := by simpa using h1
          cases k with
          | zero =>
            have hd := Lib.hid (show mayFrom (ahead l 0) (l.drop 0) = mayFrom (ahead l (0 + 1)) (l.drop (0 + 1)) by rw [may_drop hp, decide_eq_true (by simp only [ahead]; omega), Bool.true_and, ahead_succ hp])
            clear hp ha h0 h1
            simp only [Nat.zero_mul, Nat.add_zero] at c0 c1
            go_wp2
            go_quiet (fail)
            go_wp2
            go_roundw
            case rel => exact ⟨0 + 1, by omega, by go_num, Lib.hid (by rw [hrel.out, hd.out]), hx.drewN _⟩
            case measure => simp [intOf]; omega
          | succ k =>
            obtain ⟨b', o', x', y', e, hq, c0', c1'⟩ := (hv.out.ext hx).at (k := k) (by rw [hn.out]; omega)
            injection e with e
            injection e with e1 e2
            subst e1
            subst e2
            have hah := Lib.hid (ahead_succ hq)
            have hsub : IntKind.i64.wrap (((k + 1 : Nat) : Int) - 1) = (k : Int) := by rw [show (((k + 1 : Nat) : Int) - 1) = (k : Int) by omega]; exact IntWalk.i64_in _ (by omega)
            have hi1 : (0 : Int) ≤ (k : Int) := by omega
            have hi2 : (k : Int) < (n : Int) := by omega
            have hg : decide ((0 : Int) < ((k + 1 : Nat) : Int)) = true := by simp
            by_cases hxx : x ≤ x'
            · have hd := Lib.hid (show mayFrom (ahead l (k + 1)) (l.drop (k + 1)) = false by rw [may_drop hp, hah.out, decide_eq_false (by omega), Bool.false_and])
              clear hp hq ha h0 h1 c1'
              go_wp2
              go_quiet (fail)
              go_wp2
              go_ret
              exact ⟨ret_bool (a := false) (by rw [hrel.out, hd.out]), hx.drewN _⟩
            · have hd := Lib.hid (show mayFrom (ahead l (k + 1)) (l.drop (k + 1)) = mayFrom (ahead l (k + 1 + 1)) (l.drop (k + 1 + 1)) by rw [may_drop hp, hah.out, decide_eq_true (by omega), Bool.true_and, ahead_succ hp])
              have hle : decide (x ≤ x') = false := by simpa using hxx
              clear hp hq ha h0 h1 c1' hxx
              go_wp2
              go_quiet (fail)
              go_wp2
              go_roundw
              case rel => exact ⟨k + 1 + 1, by omega, by go_num, Lib.hid (by rw [hrel.out, hd.out]), hx.drewN _⟩
              case measure => simp [intOf]; omega
    · have hz := Lib.hid (show mayFrom (ahead l k) (l.drop k) = true from may_end (by rw [hn.out]; omega) _)
      go_wp2
      go_ret
      exact ⟨ret_bool (a := true) (by rw [hrel.out, hz.out]), hx⟩

theorem clock_neq (a b : Int) (W : World) : (binOp .neq 33 (.agg #[.int .u32 a, .int .u32 b]) (.agg #[.int .u32 a, .int .u32 b])).run Try.prog W = .ok (.bool false) W := by
  simp [go_sem]

set_option maxHeartbeats 1000000 in
theorem same_any (A B : Option Addr) (n cap cap' : Nat) (l : List (Int × Int)) (w : World) (hv : Vec w A l) (hu : Vec w B l) (hn : l.length = n) (hb : n ≤ 1000) :
    Calls Try.prog 8 #[.slice A n cap, .slice B n cap'] w fun e w' => e = .returned (.bool true) ∧ Ext w w' := by
  replace hn := Lib.hid hn
  replace hv := Lib.hid hv
  replace hu := Lib.hid hu
  go_enter Try.func8, Try.ntmps8
  go_wp2
  go_loopw [5] (fun i W => ∃ (k : Nat), k ≤ n ∧ i = .int .i64 k ∧ Ext w W) (fun i _ => n - (intOf i).toNat)
  case atStart => exact ⟨0, Nat.zero_le _, rfl, Ext.refl _⟩
  case round =>
    obtain ⟨k, hk, rfl, hx⟩ := hrel
    by_cases hlt : k < n
    · obtain ⟨b, o, x, y, rfl, hp, c0, c1⟩ := (hv.out.ext hx).at (k := k) (by rw [hn.out]; exact hlt)
      obtain ⟨b', o', x', y', rfl, hp', c0', c1'⟩ := (hu.out.ext hx).at (k := k) (by rw [hn.out]; exact hlt)
      rw [hp] at hp'
      injection hp' with hp'
      injection hp' with e1 e2
      subst e1
      subst e2
      clear hp
      have hnq := clock_neq x y
      go_wp2
      go_quiet (fail)
      go_wp2
      go_roundw
      case rel => exact ⟨k + 1, by omega, by go_num, hx.drewN _⟩
      case measure => simp [intOf]; omega
    · go_wp2
      go_ret
      exact ⟨rfl, hx⟩

theorem covers_drop {a b : List (Int × Int)} {k : Nat} {x y : Int} (h : b[k]? = some (x, y)) : coversOf a (b.drop k) = (decide (y ≤ nextOf a x) && coversOf a (b.drop (k + 1))) := by
  obtain ⟨hk, e⟩ := List.getElem?_eq_some_iff.1 h
  rw [List.drop_eq_getElem_cons hk, e, coversOf]

set_option maxHeartbeats 1000000 in
theorem coversRef_any (A B : Option Addr) (n m cap cap' : Nat) (l r : List (Int × Int)) (w : World) (hv : Vec w A l) (hu : Vec w B r) (hn : l.length = n) (hm : r.length = m) (hb : n ≤ 1000) (hb' : m ≤ 1000) :
    Calls Try.prog 16 #[.slice A n cap, .slice B m cap'] w fun e w' => e = .returned (.bool (coversOf l r)) ∧ Ext w w' := by
  replace hn := Lib.hid hn
  replace hm := Lib.hid hm
  replace hv := Lib.hid hv
  replace hu := Lib.hid hu
  go_enter Try.func16, Try.ntmps16
  go_wp2
  go_loopw [5] (fun i W => ∃ (k : Nat), k ≤ m ∧ i = .int .i64 k ∧ Hid (coversOf l r = coversOf l (r.drop k)) ∧ Ext w W) (fun i _ => m - (intOf i).toNat)
  case atStart => exact ⟨0, Nat.zero_le _, rfl, Lib.hid (by simp), Ext.refl _⟩
  case round =>
    obtain ⟨k, hk, rfl, hrel, hx⟩ := hrel
    by_cases hlt : k < m
    · obtain ⟨b, o, x, y, rfl, hp, c0, c1⟩ := (hu.out.ext hx).at (k := k) (by rw [hm.out]; exact hlt)
      have hd := Lib.hid (covers_drop (a := l) hp)
      clear hp
      have hvx := Lib.hid (hv.out.ext hx)
      have hcall := Lib.hid (fun j => nextRef_any A n cap l x (wr.drewN j) (hvx.out.ext ((Ext.refl wr).drewN j)) hn.out hb)
      by_cases hc : nextOf l x < y
      · have hd' := Lib.hid (show coversOf l (r.drop k) = false by rw [hd.out, decide_eq_false (by omega), Bool.false_and])
        clear hd
        generalize nextOf l x = q at *
        go_wp2
        go_quiet ((exact Calls.quiet_of ((hcall.out _).mono fun e w' h => ⟨h.1, 0, by rw [← h.2]; rfl⟩)))
        go_wp2
        go_ret
        exact ⟨ret_bool (a := false) (by rw [hrel.out, hd'.out]), hx.drewN _⟩
      · have hd' := Lib.hid (show coversOf l (r.drop k) = coversOf l (r.drop (k + 1)) by rw [hd.out, decide_eq_true (by omega), Bool.true_and])
        have hc' : decide (nextOf l x < y) = false := by simpa using hc
        clear hd hc
        generalize nextOf l x = q at *
        go_wp2
        go_quiet ((exact Calls.quiet_of ((hcall.out _).mono fun e w' h => ⟨h.1, 0, by rw [← h.2]; rfl⟩)))
        go_wp2
        go_roundw
        case rel => exact ⟨k + 1, by omega, by go_num, Lib.hid (by rw [hrel.out, hd'.out]), hx.drewN _⟩
        case measure => simp [intOf]; omega
    · go_wp2
      go_ret
      exact ⟨ret_bool (a := true) (by rw [hrel.out, List.drop_eq_nil_of_le (by rw [hm.out]; omega)]; rfl), hx⟩

end Go.Proofs.Ytbniojfggiioaaa
