/-
  Contract of runs.together; no claim stands here.
-/
import Derived.Test.YtjhhohoeeacckaaDoorNOn
namespace Go.Proofs.YtjhhohoeeacckaaDoor
open Go.ChangeShapes Go.WideShapes Go.ChangeAt Go.RowKit Go.Sort
set_option linter.unusedVariables false
attribute [local go_sem] World.cell?_alloc_some

theorem drop_atI {α : Type} {l : List α} {k : Nat} {p : α} (h : l[k]? = some p) : l.drop k = p :: l.drop (k + 1) := by
  obtain ⟨hk, e⟩ := List.getElem?_eq_some_iff.1 h
  rw [List.drop_eq_getElem_cons hk, e]
theorem tog_on {l : List It} {k : Nat} {x y : It} (hx : l[k]? = some x) (hy : l[k + 1]? = some y) : tog (l.drop k) = if onI x y then tog (l.drop (k + 1)) + 1 else 1 := by
  rw [drop_atI hx, tog, drop_atI hy]; rfl
theorem tog_last {l : List It} {k : Nat} {x : It} (hx : l[k]? = some x) (hl : l.length ≤ k + 1) : tog (l.drop k) = 1 := by
  rw [drop_atI hx, List.drop_eq_nil_of_le hl]; rfl
def wfIs (l : List It) : Prop := ∀ x ∈ l, wfI x
theorem wfIs.at {l : List It} (h : wfIs l) {k : Nat} {x : It} (hx : l[k]? = some x) : wfI x := h x (List.mem_of_getElem? hx)

/-- the cells of one, in whatever world has grown from this one -/
structure ItG (w : World) (b o : Nat) (x : It) : Prop where
  c0 : ∀ d os, (grow (redrawn w d) os).cell? ⟨b, o, none⟩ = some (Vu x.c)
  c1 : ∀ d os, (grow (redrawn w d) os).cell? ⟨b, o + 1, none⟩ = some (Vu x.k)
  c2 : ∀ d os, (grow (redrawn w d) os).cell? ⟨b, o + 2, none⟩ = some (Vu x.lc)
  c3 : ∀ d os, (grow (redrawn w d) os).cell? ⟨b, o + 3, none⟩ = some (Vu x.lk)
  c4 : ∀ d os, (grow (redrawn w d) os).cell? ⟨b, o + 4, none⟩ = some (Vu x.rc)
  c5 : ∀ d os, (grow (redrawn w d) os).cell? ⟨b, o + 5, none⟩ = some (Vu x.rk)
  c6 : ∀ d os, (grow (redrawn w d) os).cell? ⟨b, o + 6, none⟩ = some (.int .i32 x.ch)
theorem ItC.regrown {w : World} {b o : Nat} {x : It} (h : ItC w b o x) : ItG w b o x := ⟨cell_regrown h.c0, cell_regrown h.c1, cell_regrown h.c2, cell_regrown h.c3, cell_regrown h.c4, cell_regrown h.c5, cell_regrown h.c6⟩

set_option maxRecDepth 100000 in
set_option maxHeartbeats 2000000 in
theorem together_any (A : Option Addr) (n cap : Nat) (l : List It) (w : World) (hv : ItS w A l) (hn : l.length = n) (h0 : 0 < n) (hw : wfIs l) (hb : n ≤ 100000) :
    Calls Tryd.prog 22 #[.slice A n cap] w fun e w' => e = .returned (Vi (tog l : Int)) ∧ Ext w w' := by
  replace hn := Lib.hid hn
  replace hv := Lib.hid hv
  replace hw := Lib.hid hw
  go_enter Tryd.func22, Tryd.ntmps22
  go_wp2
  go_loopw [3] (fun i W => ∃ (k : Nat), k + 1 ≤ n ∧ i = Vi ((k : Int) + 1) ∧ Hid (tog l = k + tog (l.drop k)) ∧ Ext w W) (fun i _ => n - (intOf i).toNat)
  case atStart => exact ⟨0, by omega, rfl, Lib.hid (by simp), Ext.refl _⟩
  case round =>
    obtain ⟨k, hk, rfl, hrel, hx⟩ := hrel
    obtain ⟨b, o, x, rfl, hp, d⟩ := hv.out.at (k := k) (by rw [hn.out]; omega)
    by_cases hlt : k + 1 < n
    · obtain ⟨b', o', y, e, hq, d'⟩ := hv.out.at (k := k + 1) (by rw [hn.out]; omega)
      injection e with e
      injection e with e1 e2
      subst e1
      subst e2
      have hwf := hw.out.at hp
      have hd0 := Lib.hid (tog_on hp hq)
      clear hp hq
      obtain ⟨r0, r1, r2, r3, r4, r5, r6⟩ := (d.ext hx).regrown
      obtain ⟨s0, s1, s2, s3, s4, s5, s6⟩ := (d'.ext hx).regrown
      clear d d'
      have hsub : IntKind.i64.wrap ((k : Int) + 1 - 1) = (k : Int) := by rw [show ((k : Int) + 1 - 1) = (k : Int) by omega]; exact IntWalk.i64_in _ (by omega)
      have hg : decide ((k : Int) + 1 < (n : Int)) = true := by rw [decide_eq_true_eq]; omega
      have hi1 : (0 : Int) ≤ (k : Int) := by omega
      have hi2 : (k : Int) < (n : Int) := by omega
      have hi3 : (0 : Int) ≤ (k : Int) + 1 := by omega
      have hi4 : (k : Int) + 1 < (n : Int) := by omega
      have ht : ((k : Int) + 1).toNat = k + 1 := by omega
      have hcall := Lib.hid (fun W => goesOn_any x y W hwf.2.2.1 hwf.2.2.2.1)
      cases hon : onI x y with
      | true =>
        rw [hon] at hcall
        have hd := Lib.hid (show tog (l.drop k) = tog (l.drop (k + 1)) + 1 by rw [hd0.out, hon]; rfl)
        clear hon hwf hd0
        go_wp2_with fail
        refine wp_region_quiet_below (by kernel_rfl) (by kernel_rfl) ?_
        repeat go_big_quiet_step ((with_reducible exact Calls.in_regrown (hcall.out _)))
        refine wpQuiet_nil ?_
        intro _ hw'
        obtain ⟨⟨dq, osq⟩, hw''⟩ := hw'
        subst hw''
        go_wp2
        go_roundw
        case rel => exact ⟨k + 1, by omega, by go_num, Lib.hid (by rw [hrel.out, hd.out]; omega), hx.trans (Ext.regrown _ _ _)⟩
        case measure => simp [intOf]; omega
      | false =>
        rw [hon] at hcall
        have hd := Lib.hid (show tog (l.drop k) = 1 by rw [hd0.out, hon]; rfl)
        clear hon hwf hd0
        go_wp2_with fail
        refine wp_region_quiet_below (by kernel_rfl) (by kernel_rfl) ?_
        repeat go_big_quiet_step ((with_reducible exact Calls.in_regrown (hcall.out _)))
        refine wpQuiet_nil ?_
        intro _ hw'
        obtain ⟨⟨dq, osq⟩, hw''⟩ := hw'
        subst hw''
        go_wp2
        go_ret
        exact ⟨ret_i64 (a := (k : Int) + 1) (by rw [hrel.out, hd.out]; simp), hx.trans (Ext.regrown _ _ _)⟩
    · have hd := Lib.hid (tog_last hp (by rw [hn.out]; omega))
      clear hp d
      have hg : decide ((k : Int) + 1 < (n : Int)) = false := by rw [decide_eq_false_iff_not]; omega
      go_wp2_with fail
      refine wp_region_quiet_below (by kernel_rfl) (by kernel_rfl) ?_
      repeat go_big_quiet_step (fail)
      refine wpQuiet_nil ?_
      intro _ hw'
      obtain ⟨⟨dq, osq⟩, hw''⟩ := hw'
      subst hw''
      go_wp2
      go_ret
      exact ⟨ret_i64 (a := (k : Int) + 1) (by rw [hrel.out, hd.out]; simp), hx.trans (Ext.regrown _ _ _)⟩

end Go.Proofs.YtjhhohoeeacckaaDoor
