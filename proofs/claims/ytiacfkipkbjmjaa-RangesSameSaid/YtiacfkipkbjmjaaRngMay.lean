/-
  Contracts of ranges.May and ranges.Count, and of the reference's; no claim stands here.
-/
import Derived.Test.YtiacfkipkbjmjaaRng
namespace Go.Proofs.Ytiacfkipkbjmjaa
open Go.ChangeShapes Go.WideShapes Go.ChangeAt Go.RowKit Go.Sort
set_option linter.unusedVariables false
attribute [local go_sem] World.cell?_alloc_some

def aheadS (l : List (Int × Int × Int)) : Nat → Int × Int × Int
  | 0 => zS
  | k + 1 => (l[k]?).getD zS
theorem mayS_drop {l : List (Int × Int × Int)} {k : Nat} {p : Int × Int × Int} (h : l[k]? = some p) (a : Int × Int × Int) : maySp a (l.drop k) = ((apartB a p && goodB p) && maySp p (l.drop (k + 1))) := by
  obtain ⟨hk, e⟩ := List.getElem?_eq_some_iff.1 h
  rw [List.drop_eq_getElem_cons hk, e, maySp]
theorem mayS_end {l : List (Int × Int × Int)} {k : Nat} (h : l.length ≤ k) (a : Int × Int × Int) : maySp a (l.drop k) = true := by
  rw [List.drop_eq_nil_of_le h]; rfl
theorem aheadS_succ {l : List (Int × Int × Int)} {k : Nat} {p : Int × Int × Int} (h : l[k]? = some p) : aheadS l (k + 1) = p := by simp [aheadS, h]
theorem mayS_bad {l : List (Int × Int × Int)} {k : Nat} {p : Int × Int × Int} (h : l[k]? = some p) (hg : goodB p = false) (a : Int × Int × Int) : maySp a (l.drop k) = false := by
  rw [mayS_drop h, hg, Bool.and_false, Bool.false_and]
theorem mayS_first {l : List (Int × Int × Int)} {p : Int × Int × Int} (h : l[0]? = some p) (hg : goodB p = true) : maySp (aheadS l 0) (l.drop 0) = maySp (aheadS l (0 + 1)) (l.drop (0 + 1)) := by
  rw [mayS_drop h, hg, aheadS_succ h, show apartB (aheadS l 0) p = true from apart_iff.2 (.inl (good_iff.1 hg).1), Bool.and_true, Bool.true_and]
theorem mayS_next {l : List (Int × Int × Int)} {k : Nat} {p q : Int × Int × Int} (h : l[k + 1]? = some p) (hq : l[k]? = some q) (hg : goodB p = true) : maySp (aheadS l (k + 1)) (l.drop (k + 1)) = (apartB q p && maySp (aheadS l (k + 1 + 1)) (l.drop (k + 1 + 1))) := by
  rw [mayS_drop h, hg, aheadS_succ h, aheadS_succ hq, Bool.and_true]

set_option maxHeartbeats 2000000 in
theorem mayR_any (A : Option Addr) (n cap : Nat) (l : List (Int × Int × Int)) (w : World) (hv : SpS w A l) (hn : l.length = n) (hw : wfS l) (hb : n ≤ 1000) :
    Calls Try.prog 11 #[.slice A n cap] w fun e w' => e = .returned (.bool (maySp zS l)) ∧ Ext w w' := by
  replace hn := Lib.hid hn
  replace hv := Lib.hid hv
  replace hw := Lib.hid hw
  go_enter Try.func11, Try.ntmps11
  go_wp2
  go_loopw [7] (fun i W => ∃ (k : Nat), k ≤ n ∧ i = .int .i64 k ∧ Hid (maySp zS l = maySp (aheadS l k) (l.drop k)) ∧ Ext w W) (fun i _ => n - (intOf i).toNat)
  case atStart => exact ⟨0, Nat.zero_le _, rfl, Lib.hid (by simp [aheadS]), Ext.refl _⟩
  case round =>
    obtain ⟨k, hk, rfl, hrel, hx⟩ := hrel
    by_cases hlt : k < n
    · obtain ⟨b, o, x, y, z, rfl, hp, d0, d1, d2⟩ := hv.out.at (k := k) (by rw [hn.out]; exact hlt)
      have hwf := wfS_at hw.out hp
      replace hp := Lib.hid hp
      have c0 := hx.keep d0
      have c1 := hx.keep d1
      have c2 := hx.keep d2
      have hcall := Lib.hid (fun W => empty_any x y z W hwf.1)
      go_wp2_with fail
      have q0 : (wr.alloc (Obj.cells #[Value.int IntKind.u32 x, Value.int IntKind.u32 y, Value.int IntKind.u32 z] 36)).cell? ⟨wr.heap.size, 0, none⟩ = some (Vu x) := by simp [go_sem]
      have q1 : (wr.alloc (Obj.cells #[Value.int IntKind.u32 x, Value.int IntKind.u32 y, Value.int IntKind.u32 z] 36)).cell? ⟨wr.heap.size, 1, none⟩ = some (Vu y) := by simp [go_sem]
      have q2 : (wr.alloc (Obj.cells #[Value.int IntKind.u32 x, Value.int IntKind.u32 y, Value.int IntKind.u32 z] 36)).cell? ⟨wr.heap.size, 2, none⟩ = some (Vu z) := by simp [go_sem]
      have x1 : Ext wr (wr.alloc (Obj.cells #[Value.int IntKind.u32 x, Value.int IntKind.u32 y, Value.int IntKind.u32 z] 36)) := (Ext.refl _).alloc _
      clear c0 c1 c2
      generalize wr.alloc (Obj.cells #[Value.int IntKind.u32 x, Value.int IntKind.u32 y, Value.int IntKind.u32 z] 36) = W1 at *
      generalize wr.heap.size = py at *
      have hx1 := hx.trans x1
      clear x1
      have s0 := cell_regrown q0
      have s1 := cell_regrown q1
      have s2 := cell_regrown q2
      clear q0 q1 q2
      cases hgo : goodB (x, y, z) with
      | false =>
        rw [hgo, Bool.not_false] at hcall
        have hd := Lib.hid (mayS_bad hp.out hgo (aheadS l k))
        clear hgo
        refine wp_region_quiet_below (by kernel_rfl) (by kernel_rfl) ?_
        repeat go_big_quiet_step ((with_reducible exact Calls.in_regrown (hcall.out _)))
        refine wpQuiet_nil ?_
        intro _ hw'
        obtain ⟨⟨dq, osq⟩, hw''⟩ := hw'
        subst hw''
        go_wp2
        go_ret
        exact ⟨ret_bool (a := false) (by rw [hrel.out, hd.out]), hx1.trans (Ext.regrown _ _ _)⟩
      | true =>
        rw [hgo, Bool.not_true] at hcall
        cases k with
        | zero =>
          have hd := Lib.hid (mayS_first hp.out hgo)
          clear hgo
          refine wp_region_quiet_below (by kernel_rfl) (by kernel_rfl) ?_
          repeat go_big_quiet_step ((with_reducible exact Calls.in_regrown (hcall.out _)))
          refine wpQuiet_nil ?_
          intro _ hw'
          obtain ⟨⟨dq, osq⟩, hw''⟩ := hw'
          subst hw''
          go_wp2
          go_roundw
          case rel => exact ⟨0 + 1, by omega, by go_num, Lib.hid (by rw [hrel.out, hd.out]), hx1.trans (Ext.regrown _ _ _)⟩
          case measure => simp [intOf]; omega
        | succ k =>
          obtain ⟨b', o', x', y', z', e, hq, c0', c1', c2'⟩ := hv.out.at (k := k) (by rw [hn.out]; omega)
          injection e with e
          injection e with e1 e2
          subst e1
          subst e2
          have r0 := cell_regrown (hx1.keep c0')
          have r1 := cell_regrown (hx1.keep c1')
          have r2 := cell_regrown (hx1.keep c2')
          clear c0' c1' c2'
          have hsub : IntKind.i64.wrap (((k + 1 : Nat) : Int) - 1) = (k : Int) := by rw [show (((k + 1 : Nat) : Int) - 1) = (k : Int) by omega]; exact IntWalk.i64_in _ (by omega)
          have hi1 : (0 : Int) ≤ (k : Int) := by omega
          have hi2 : (k : Int) < (n : Int) := by omega
          have hg : decide ((0 : Int) < ((k + 1 : Nat) : Int)) = true := by simp
          have hg2 : decide ((0 : Int) < (k : Int) + 1) = true := by rw [decide_eq_true_eq]; omega
          have hd := Lib.hid (mayS_next hp.out hq hgo)
          have hcall2 := Lib.hid (fun W => apart_any x' y' z' x y z W)
          clear hgo
          cases hap : apartB (x', y', z') (x, y, z) with
          | true =>
            rw [hap] at hcall2 hd
            clear hap hq
            refine wp_region_quiet_below (by kernel_rfl) (by kernel_rfl) ?_
            repeat go_big_quiet_step ((first | with_reducible exact Calls.in_regrown (hcall.out _) | with_reducible exact Calls.in_regrown (hcall2.out _)))
            refine wpQuiet_nil ?_
            intro _ hw'
            obtain ⟨⟨dq, osq⟩, hw''⟩ := hw'
            subst hw''
            go_wp2
            go_roundw
            case rel => exact ⟨k + 1 + 1, by omega, by go_num, Lib.hid (by rw [hrel.out, hd.out, Bool.true_and]), hx1.trans (Ext.regrown _ _ _)⟩
            case measure => simp [intOf]; omega
          | false =>
            rw [hap] at hcall2 hd
            clear hap hq
            refine wp_region_quiet_below (by kernel_rfl) (by kernel_rfl) ?_
            repeat go_big_quiet_step ((first | with_reducible exact Calls.in_regrown (hcall.out _) | with_reducible exact Calls.in_regrown (hcall2.out _)))
            refine wpQuiet_nil ?_
            intro _ hw'
            obtain ⟨⟨dq, osq⟩, hw''⟩ := hw'
            subst hw''
            go_wp2
            go_ret
            exact ⟨ret_bool (a := false) (by rw [hrel.out, hd.out, Bool.false_and]), hx1.trans (Ext.regrown _ _ _)⟩
    · have hz := Lib.hid (show maySp (aheadS l k) (l.drop k) = true from mayS_end (by rw [hn.out]; omega) _)
      go_wp2
      go_ret
      exact ⟨ret_bool (a := true) (by rw [hrel.out, hz.out]), hx⟩

end Go.Proofs.Ytiacfkipkbjmjaa
