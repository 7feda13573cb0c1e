/-
  Contracts of the reference's SameSet, MaySet, Has and Count; no claim stands here.
-/
import Derived.Test.YtiacfkipkbjmjaaRngMay
import Derived.Test.YtiacfkipkbjmjaaRngHas
namespace Go.Proofs.Ytiacfkipkbjmjaa
open Go.ChangeShapes Go.WideShapes Go.ChangeAt Go.RowKit Go.Sort
set_option linter.unusedVariables false
attribute [local go_sem] World.cell?_alloc_some

theorem span_neq (a b c : Int) (W : World) : (binOp .neq 36 (.agg #[.int .u32 a, .int .u32 b, .int .u32 c]) (.agg #[.int .u32 a, .int .u32 b, .int .u32 c])).run Try.prog W = .ok (.bool false) W := by
  simp [go_sem]

set_option maxHeartbeats 1000000 in
theorem sameS_any (A B : Option Addr) (n cap cap' : Nat) (l : List (Int × Int × Int)) (w : World) (hv : SpS w A l) (hu : SpS w B l) (hn : l.length = n) (hb : n ≤ 1000) :
    Calls Try.prog 7 #[.slice A n cap, .slice B n cap'] w fun e w' => e = .returned (.bool true) ∧ Ext w w' := by
  replace hn := Lib.hid hn
  replace hv := Lib.hid hv
  replace hu := Lib.hid hu
  go_enter Try.func7, Try.ntmps7
  go_wp2
  go_loopw [5] (fun i W => ∃ (k : Nat), k ≤ n ∧ i = .int .i64 k ∧ Ext w W) (fun i _ => n - (intOf i).toNat)
  case atStart => exact ⟨0, Nat.zero_le _, rfl, Ext.refl _⟩
  case round =>
    obtain ⟨k, hk, rfl, hx⟩ := hrel
    by_cases hlt : k < n
    · obtain ⟨b, o, x, y, z, rfl, hp, c0, c1, c2⟩ := (hv.out.ext hx).at (k := k) (by rw [hn.out]; exact hlt)
      obtain ⟨b', o', x', y', z', rfl, hp', c0', c1', c2'⟩ := (hu.out.ext hx).at (k := k) (by rw [hn.out]; exact hlt)
      rw [hp] at hp'
      injection hp' with hp'
      injection hp' with e1 e2
      injection e2 with e2 e3
      subst e1
      subst e2
      subst e3
      clear hp
      have hnq := span_neq x y z
      go_wp2
      go_quiet (fail)
      go_wp2
      go_roundw
      case rel => exact ⟨k + 1, by omega, by go_num, hx.drewN _⟩
      case measure => simp [intOf]; omega
    · go_wp2
      go_ret
      exact ⟨rfl, hx⟩

set_option maxHeartbeats 1000000 in
theorem countRef_any (A : Option Addr) (n cap : Nat) (l : List (Int × Int × Int)) (w : World) (hv : SpS w A l) (hn : l.length = n) (hw : wfS l) (hm : maySp zS l = true) (hb : n ≤ 1000) :
    Calls Try.prog 15 #[.slice A n cap] w fun e w' => e = .returned (.int .u64 (cntS l)) ∧ Ext w w' := by
  replace hn := Lib.hid hn
  replace hv := Lib.hid hv
  replace hw := Lib.hid hw
  replace hm := Lib.hid hm
  go_enter Try.func15, Try.ntmps15
  go_wp2
  go_loopw [3, 4] (CntRel w n l) (fun _ i _ => n - (intOf i).toNat)
  case atStart => exact ⟨0, 0, Nat.zero_le _, rfl, rfl, by omega, by omega, Lib.hid (by simp), Ext.refl _⟩
  case round =>
    obtain ⟨k, s, hk, rfl, rfl, hs0, hs1, hrel, hx⟩ := hrel
    by_cases hlt : k < n
    · obtain ⟨b, o, x, y, z, rfl, hp, d0, d1, d2⟩ := hv.out.at (k := k) (by rw [hn.out]; exact hlt)
      have hwf := wfS_at hw.out hp
      have hyz := mayS_at hm.out hp
      have c0 := hx.keep d0
      have c1 := hx.keep d1
      have c2 := hx.keep d2
      have hd := Lib.hid (cnt_drop hp)
      clear hp
      go_wp2
      go_quiet (fail)
      go_wp2
      go_roundw
      case rel => exact ⟨k + 1, s + (z - y), by omega, by go_num, by go_num, by omega, by omega, Lib.hid (by rw [← hrel.out, hd.out]; omega), hx.drewN _⟩
      case measure => simp [intOf]; omega
    · have hz := Lib.hid (show s = cntS l by rw [← hrel.out, List.drop_eq_nil_of_le (by rw [hn.out]; omega), cntS]; omega)
      go_wp2
      go_ret
      exact ⟨ret_u64 (a := s) hz.out, hx⟩

theorem memS_drop {l : List (Int × Int × Int)} {k : Nat} {p : Int × Int × Int} (h : l[k]? = some p) (c t : Int) : memS (l.drop k) c t = (inS p c t || memS (l.drop (k + 1)) c t) := by
  obtain ⟨hk, e⟩ := List.getElem?_eq_some_iff.1 h
  rw [List.drop_eq_getElem_cons hk, e, memS]

set_option maxHeartbeats 1000000 in
theorem hasRef_any (A : Option Addr) (n cap : Nat) (l : List (Int × Int × Int)) (c t : Int) (w : World) (hv : SpS w A l) (hn : l.length = n) (hb : n ≤ 1000) :
    Calls Try.prog 13 #[.slice A n cap, idv c t] w fun e w' => e = .returned (.bool (memS l c t)) ∧ Ext w w' := by
  replace hn := Lib.hid hn
  replace hv := Lib.hid hv
  go_enter Try.func13, Try.ntmps13
  go_wp2
  have x0 : Ext w (w.alloc (Obj.cells #[Value.int IntKind.u32 c, Value.int IntKind.u32 t] 25)) := (Ext.refl _).alloc _
  have q0 : (w.alloc (Obj.cells #[Value.int IntKind.u32 c, Value.int IntKind.u32 t] 25)).cell? ⟨w.heap.size, 0, none⟩ = some (Vu c) := by simp [go_sem]
  have q1 : (w.alloc (Obj.cells #[Value.int IntKind.u32 c, Value.int IntKind.u32 t] 25)).cell? ⟨w.heap.size, 1, none⟩ = some (Vu t) := by simp [go_sem]
  generalize w.alloc (Obj.cells #[Value.int IntKind.u32 c, Value.int IntKind.u32 t] 25) = W0 at *
  generalize w.heap.size = pt at *
  go_loopw [5] (fun i W => ∃ k : Nat, k ≤ n ∧ i = .int .i64 k ∧ Hid (memS l c t = memS (l.drop k) c t) ∧ Ext W0 W) (fun i _ => n - (intOf i).toNat)
  case atStart => exact ⟨0, Nat.zero_le _, rfl, Lib.hid (by simp), Ext.refl _⟩
  case round =>
    obtain ⟨k, hk, rfl, hrel, hx⟩ := hrel
    by_cases hlt : k < n
    · obtain ⟨b, o, x, y, z, rfl, hp, c0, c1, c2⟩ := (hv.out.ext (x0.trans hx)).at (k := k) (by rw [hn.out]; exact hlt)
      have s0 := hx.keep q0
      have s1 := hx.keep q1
      have hd := Lib.hid (memS_drop hp c t)
      clear hp
      by_cases hi : x = c ∧ y ≤ t ∧ t < z
      · obtain ⟨rfl, h2, h3⟩ := hi
        have hd' := Lib.hid (show memS (l.drop k) x t = true by rw [hd.out, inS_iff.2 ⟨rfl, h2, h3⟩, Bool.true_or])
        have g2 : decide (y ≤ t) = true := by simpa using h2
        have g3 : decide (t < z) = true := by simpa using h3
        clear hd
        go_wp2
        go_quiet (fail)
        go_wp2
        go_ret
        exact ⟨ret_bool (a := true) (by rw [hrel.out, hd'.out]), (x0.trans hx).drewN _⟩
      · have hd' := Lib.hid (show memS (l.drop k) c t = memS (l.drop (k + 1)) c t by rw [hd.out, inS_not.2 hi, Bool.false_or])
        clear hd
        by_cases h1 : x = c
        · subst h1
          by_cases h2 : y ≤ t
          · have g2 : decide (y ≤ t) = true := by simpa using h2
            have g3 : decide (t < z) = false := by
              rw [decide_eq_false_iff_not]
              exact fun h => hi ⟨rfl, h2, h⟩
            clear hi
            go_wp2
            go_quiet (fail)
            go_wp2
            go_roundw
            case rel => exact ⟨k + 1, by omega, by go_num, Lib.hid (by rw [hrel.out, hd'.out]), hx.drewN _⟩
            case measure => simp [intOf]; omega
          · have g2 : decide (y ≤ t) = false := by simpa using h2
            clear hi h2
            go_wp2
            go_quiet (fail)
            go_wp2
            go_roundw
            case rel => exact ⟨k + 1, by omega, by go_num, Lib.hid (by rw [hrel.out, hd'.out]), hx.drewN _⟩
            case measure => simp [intOf]; omega
        · have g1 : (x == c) = false := by simpa using h1
          clear hi h1
          go_wp2
          go_quiet (fail)
          go_wp2
          go_roundw
          case rel => exact ⟨k + 1, by omega, by go_num, Lib.hid (by rw [hrel.out, hd'.out]), hx.drewN _⟩
          case measure => simp [intOf]; omega
    · go_wp2
      go_ret
      exact ⟨ret_bool (a := false) (by rw [hrel.out, List.drop_eq_nil_of_le (by rw [hn.out]; omega)]; rfl), x0.trans hx⟩

end Go.Proofs.Ytiacfkipkbjmjaa
