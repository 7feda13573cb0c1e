/-
  Contracts of the reference's SameItems and of the law's same; no claim stands here.
-/
import Derived.Test.YtjhhohoeeacckaaDoorNTog
namespace Go.Proofs.YtjhhohoeeacckaaDoor
open Go.ChangeShapes Go.WideShapes Go.ChangeAt Go.RowKit Go.Sort
set_option linter.unusedVariables false
attribute [local go_sem] World.cell?_alloc_some

theorem item_neq (a b c d e f g : Int) (W : World) : (binOp .neq 39 (.agg #[.int .u32 a, .int .u32 b, .int .u32 c, .int .u32 d, .int .u32 e, .int .u32 f, .int .i32 g]) (.agg #[.int .u32 a, .int .u32 b, .int .u32 c, .int .u32 d, .int .u32 e, .int .u32 f, .int .i32 g])).run Tryd.prog W = .ok (.bool false) W := by
  simp [go_sem]
theorem run_neq (a b c d e f : Int) (s : ByteArray) (W : World) : (binOp .neq 29 (.agg #[.int .u32 a, .int .u32 b, .int .u32 c, .int .u32 d, .int .u32 e, .int .u32 f, .string s]) (.agg #[.int .u32 a, .int .u32 b, .int .u32 c, .int .u32 d, .int .u32 e, .int .u32 f, .string s])).run Tryd.prog W = .ok (.bool false) W := by
  simp [go_sem]

set_option maxRecDepth 100000 in
set_option maxHeartbeats 2000000 in
theorem sameI_any (A B : Option Addr) (n cap cap' : Nat) (l : List It) (w : World) (hv : ItS w A l) (hu : ItS w B l) (hn : l.length = n) (hb : n ≤ 100000) :
    Calls Tryd.prog 9 #[.slice A n cap, .slice B n cap'] w fun e w' => e = .returned (.bool true) ∧ Ext w w' := by
  replace hn := Lib.hid hn
  replace hv := Lib.hid hv
  replace hu := Lib.hid hu
  go_enter Tryd.func9, Tryd.ntmps9
  go_wp2
  go_loopw [5] (fun i W => ∃ (k : Nat), k ≤ n ∧ i = .int .i64 k ∧ Ext w W) (fun i _ => n - (intOf i).toNat)
  case atStart => exact ⟨0, Nat.zero_le _, rfl, Ext.refl _⟩
  case round =>
    obtain ⟨k, hk, rfl, hx⟩ := hrel
    by_cases hlt : k < n
    · obtain ⟨b, o, x, rfl, hp, c⟩ := (hv.out.ext hx).at (k := k) (by rw [hn.out]; exact hlt)
      obtain ⟨b', o', x', rfl, hp', c'⟩ := (hu.out.ext hx).at (k := k) (by rw [hn.out]; exact hlt)
      rw [hp] at hp'
      injection hp' with hp'
      subst hp'
      clear hp
      obtain ⟨c0, c1, c2, c3, c4, c5, c6⟩ := c
      obtain ⟨d0, d1, d2, d3, d4, d5, d6⟩ := c'
      have hnq := item_neq x.c x.k x.lc x.lk x.rc x.rk x.ch
      go_wp2
      go_quiet (fail)
      go_wp2
      go_roundw
      case rel => exact ⟨k + 1, by omega, by go_num, hx.drewN _⟩
      case measure => simp [intOf]; omega
    · go_wp2
      go_ret
      exact ⟨rfl, hx⟩

set_option maxRecDepth 100000 in
set_option maxHeartbeats 2000000 in
theorem sameR_any (A B : Option Addr) (n cap cap' : Nat) (l : List Rn) (w : World) (hv : RnS w A l) (hu : RnS w B l) (hn : l.length = n) (hb : n ≤ 100000) :
    Calls Tryd.prog 12 #[.slice A n cap, .slice B n cap'] w fun e w' => e = .returned (Vi 1) ∧ Ext w w' := by
  replace hn := Lib.hid hn
  replace hv := Lib.hid hv
  replace hu := Lib.hid hu
  go_enter Tryd.func12, Tryd.ntmps12
  go_wp2
  go_loopw [5] (fun i W => ∃ (k : Nat), k ≤ n ∧ i = .int .i64 k ∧ Ext w W) (fun i _ => n - (intOf i).toNat)
  case atStart => exact ⟨0, Nat.zero_le _, rfl, Ext.refl _⟩
  case round =>
    obtain ⟨k, hk, rfl, hx⟩ := hrel
    by_cases hlt : k < n
    · obtain ⟨b, o, x, rfl, hp, c⟩ := (hv.out.ext hx).at (k := k) (by rw [hn.out]; exact hlt)
      obtain ⟨b', o', x', rfl, hp', c'⟩ := (hu.out.ext hx).at (k := k) (by rw [hn.out]; exact hlt)
      rw [hp] at hp'
      injection hp' with hp'
      subst hp'
      clear hp
      obtain ⟨c0, c1, c2, c3, c4, c5, c6⟩ := c
      obtain ⟨d0, d1, d2, d3, d4, d5, d6⟩ := c'
      have hnq := run_neq x.c x.k x.lc x.lk x.rc x.rk ⟨x.t.toArray⟩
      go_wp2
      go_quiet (fail)
      go_wp2
      go_roundw
      case rel => exact ⟨k + 1, by omega, by go_num, hx.drewN _⟩
      case measure => simp [intOf]; omega
    · go_wp2
      go_ret
      exact ⟨rfl, hx⟩

end Go.Proofs.YtjhhohoeeacckaaDoor
