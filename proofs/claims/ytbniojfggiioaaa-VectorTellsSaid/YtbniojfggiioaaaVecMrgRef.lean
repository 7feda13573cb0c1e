/-
  Contract of the reference's Merge; no claim stands here.
-/
import Derived.Test.YtbniojfggiioaaaVecSetRef
import Derived.StillTailTactics
namespace Go.Proofs.Ytbniojfggiioaaa
open Go.ChangeShapes Go.WideShapes Go.ChangeAt Go.RowKit Go.Sort
set_option linter.unusedVariables false

theorem mergeRef_drop {r : List (Int × Int)} {k : Nat} {x y : Int} (h : r[k]? = some (x, y)) (lo : List (Int × Int)) :
    mergeRef lo (r.drop k) = mergeRef (setOf lo x (max y (nextOf lo x))) (r.drop (k + 1)) := by
  obtain ⟨hk, e⟩ := List.getElem?_eq_some_iff.1 h
  rw [List.drop_eq_getElem_cons hk, e, mergeRef]

theorem may_pos : ∀ {l : List (Int × Int)} {a : Int} {j : Nat} {x y : Int}, mayFrom a l = true → l[j]? = some (x, y) → 0 < y
  | [], _, _, _, _, _, h => by simp at h
  | p :: l, a, 0, x, y, hm, h => by
    rw [may_cons] at hm
    have e : p = (x, y) := by simpa using h
    subst e
    exact hm.2.1
  | p :: l, a, j + 1, x, y, hm, h => by rw [may_cons] at hm; exact may_pos (j := j) hm.2.2 (by simpa using h)

/-- what the loop of the reference's Merge keeps -/
def MrgRel (w : World) (n m : Nat) (l r : List (Int × Int)) (o i : Value) (W : World) : Prop :=
  ∃ (k : Nat) (lo : List (Int × Int)) (A : Option Addr) (q c : Nat), k ≤ m ∧ i = .int .i64 k ∧ o = .slice A q c ∧ Hid (lo.length = q) ∧ q ≤ n + k ∧ Hid (Vec W A lo) ∧ Hid (mayFrom 0 lo = true) ∧ Ext w W ∧ Hid (mergeRef lo (r.drop k) = mergeRef l r)

set_option maxHeartbeats 2000000 in
theorem mergeRef_any (A B : Option Addr) (n m cap cap' : Nat) (l r : List (Int × Int)) (w : World) (hv : Vec w A l) (hu : Vec w B r) (hn : l.length = n) (hm : r.length = m) (hl : mayFrom 0 l = true) (hr : mayFrom 0 r = true) (hb : n + m ≤ 900) :
    Calls Try.prog 12 #[.slice A n cap, .slice B m cap'] w (RetVec w (mergeOf l r)) := by
  have hs := Lib.hid (mergeRef_same hl hr)
  generalize mergeOf l r = L at *
  replace hv := Lib.hid hv
  replace hu := Lib.hid hu
  replace hn := Lib.hid hn
  replace hm := Lib.hid hm
  replace hl := Lib.hid hl
  replace hr := Lib.hid hr
  go_enter Try.func12, Try.ntmps12
  go_wp2
  go_loopw [5, 6] (MrgRel w n m l r) (fun _ i _ => m - (intOf i).toNat)
  case atStart => exact ⟨0, l, A, n, cap, Nat.zero_le _, rfl, rfl, hn, by omega, hv, hl, Ext.refl _, Lib.hid (by simp)⟩
  case round =>
    obtain ⟨k, lo, A1, q, c, hk, rfl, rfl, hq, hqn, hv1, hlo, hx, hrel⟩ := hrel
    by_cases hlt : k < m
    · obtain ⟨b, o, x, y, rfl, hp, d0, d1⟩ := hu.out.at (k := k) (by rw [hm.out]; exact hlt)
      have hx0 := may_above hr.out hp
      simp only at hx0
      have hy0 := may_pos hr.out hp
      have hd := Lib.hid (mergeRef_drop hp lo)
      clear hp
      have c0 : wr.drew.cell? ⟨b, o + k * 2, none⟩ = some (Vu x) := hx.keep d0
      have c1 : wr.drew.cell? ⟨b, o + k * 2 + 1, none⟩ = some (Vu y) := hx.keep d1
      have hv2 := Lib.hid (hv1.out.ext (Ext.drew (Ext.refl wr)))
      have hx2 := hx.drew
      have hc1 := Lib.hid ((nextRef_any A1 q c lo x wr.drew hv2.out hq.out (by omega)).mono (fun e w' h => (⟨h.1, h.2.symm⟩ : e = Ending.returned (Vu (nextOf lo x)) ∧ w' = wr.drew)))
      have hnn := next_nonneg x hlo.out
      have hc2 := Lib.hid (show ∀ z : Int, z = max y (nextOf lo x) → Calls Try.prog 10 #[.slice A1 q c, Vu x, Vu z] wr.drew (RetVec wr.drew (setOf lo x (max y (nextOf lo x)))) from fun z hz => by
        subst hz
        have := setRef_any A1 q c lo x (max y (nextOf lo x)) wr.drew hv2.out hq.out hlo.out (by omega)
        unfold setC at this
        rwa [if_neg (by omega)] at this)
      have hc3 := Lib.hid (set_may (c := x) (n := max y (nextOf lo x)) hlo.out hx0 (by omega))
      have hc4 := set_len lo x (max y (nextOf lo x))
      rw [hq.out] at hc4
      generalize setOf lo x (max y (nextOf lo x)) = l2 at *
      generalize nextOf lo x = nx at *
      go_wp2
      refine wp_region_still_tail 19 (by kernel_rfl) (by kernel_rfl) ?_
      simp only [List.take_succ_cons, List.take_zero, List.drop_succ_cons, List.drop_zero]
      change wpStill Try.prog _ wr.drew (fun a' => wpList Try.prog _ _ _ a' wr.drew) _ _
      generalize wr.drew = w2 at *
      repeat (first | still_step | still_call hc1.out)
      refine wpStill_nil ?_
      go_wp2_with fail
      all_goals
        refine (hc2.out _ (by omega)).mono ?_
        rintro e w3 ⟨A3, q3, c3, rfl, hq3, hv3, x3⟩
        replace hq3 := Lib.hid hq3
        replace hv3 := Lib.hid hv3
        have hq4 : q3 ≤ q + 1 := by rw [← hq3.out]; exact hc4
        clear hc4
        go_wp2
        go_roundw
        case rel => exact ⟨k + 1, l2, A3, q3, c3, by omega, by go_num, rfl, hq3, by omega, hv3, hc3, hx2.trans x3, Lib.hid (by rw [← hrel.out, hd.out])⟩
        case measure => simp [intOf]; omega
    · have hz := Lib.hid (show r.drop k = [] from List.drop_eq_nil_of_le (by rw [hm.out]; omega))
      have hd := Lib.hid (show lo = L by rw [← hs.out, ← hrel.out, hz.out, mergeRef])
      go_wp2
      go_ret
      exact ⟨A1, q, c, rfl, by rw [← hd.out]; exact hq.out, by rw [← hd.out]; exact hv1.out, hx⟩

end Go.Proofs.Ytbniojfggiioaaa
