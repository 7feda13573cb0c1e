/-
  Contract of the reference's Set and Merge; no claim stands here.
-/
import Derived.Test.YtbniojfggiioaaaVecSet
namespace Go.Proofs.Ytbniojfggiioaaa
open Go.ChangeShapes Go.WideShapes Go.ChangeAt Go.RowKit Go.Sort
set_option linter.unusedVariables false

theorem setRef_drop {l : List (Int × Int)} {k : Nat} {x y : Int} (h : l[k]? = some (x, y)) (put : Bool) (c n : Int) :
    setRef put (l.drop k) c n = (if !put && decide (c ≤ x) then [(c, n)] else []) ++ ((if x = c then [] else [(x, y)]) ++ setRef (put || decide (c ≤ x)) (l.drop (k + 1)) c n) := by
  obtain ⟨hk, e⟩ := List.getElem?_eq_some_iff.1 h
  rw [List.drop_eq_getElem_cons hk, e, setRef]

def OwnC (w W : World) (v : Value) (l : List (Int × Int)) : Prop := W.ownsRow w.heap.size 33 2 v l.length (flat encC l)
theorem OwnC.nil (w W : World) : OwnC w W (.slice none 0 0) [] := World.ownsRow_nil W _ _ _

/-- what the loop of the reference's Set keeps -/
def SetRel (w : World) (n : Nat) (l : List (Int × Int)) (c nx : Int) (o p i : Value) (W : World) : Prop :=
  ∃ (k : Nat) (put : Bool) (lo : List (Int × Int)), k ≤ n ∧ i = .int .i64 k ∧ p = .bool put ∧ lo.length ≤ k + put.toNat ∧ OwnC w W o lo ∧ Ext w W ∧ Hid (lo ++ setRef put (l.drop k) c nx = setRef (nx == 0) l c nx)

set_option maxHeartbeats 2000000 in
theorem setRef_any (A : Option Addr) (n cap : Nat) (l : List (Int × Int)) (c nx : Int) (w : World) (hv : Vec w A l) (hn : l.length = n) (hm : mayFrom 0 l = true) (hb : n ≤ 1000) :
    Calls Try.prog 10 #[.slice A n cap, Vu c, Vu nx] w (RetVec w (setC l c nx)) := by
  by_cases hc0 : c = 0
  · subst hc0
    have hs : setC l 0 nx = l := by unfold setC; rw [if_pos rfl]
    rw [hs]
    replace hv := Lib.hid hv
    replace hn := Lib.hid hn
    clear hs hm
    go_enter Try.func10, Try.ntmps10
    go_wp2
    go_ret
    exact ⟨A, n, cap, rfl, hn.out, hv.out, Ext.refl _⟩
  · have hc' : (c == 0) = false := by simpa using hc0
    have hs := Lib.hid (show setC l c nx = setRef (nx == 0) l c nx by unfold setC; rw [if_neg hc0, setRef_same hm])
    generalize setC l c nx = L at *
    replace hv := Lib.hid hv
    replace hn := Lib.hid hn
    clear hm hc0
    go_enter Try.func10, Try.ntmps10
    go_wp2
    go_loopw [7, 8, 9] (SetRel w n l c nx) (fun _ _ i _ => n - (intOf i).toNat)
    case atStart => exact ⟨0, _, [], Nat.zero_le _, rfl, rfl, by simp, OwnC.nil _ _, Ext.refl _, Lib.hid (by simp)⟩
    case round =>
      obtain ⟨k, put, lo, hk, rfl, rfl, hlo, ho, hx, hrel⟩ := hrel
      by_cases hlt : k < n
      · obtain ⟨b, o, x, y, rfl, hp, d0, d1⟩ := hv.out.at (k := k) (by rw [hn.out]; exact hlt)
        have c0 := hx.keep d0
        have c1 := hx.keep d1
        have hd := Lib.hid (setRef_drop hp put c nx)
        clear hp
        cases put with
        | true =>
          replace hlo : lo.length ≤ k + 1 := hlo
          by_cases hxc : x = c
          · have h1 : (x != c) = false := by simpa using hxc
            have hd' := Lib.hid (show setRef true (l.drop k) c nx = setRef true (l.drop (k + 1)) c nx by rw [hd.out, if_pos hxc]; rfl)
            clear hd hxc
            go_wp2
            go_roundw
            case rel => exact ⟨k + 1, true, lo, by omega, by go_num, rfl, by show _ ≤ k + 1 + 1; omega, ho, hx, Lib.hid (by rw [← hd'.out]; exact hrel.out)⟩
            case measure => simp [intOf]; omega
          · have h1 : (x != c) = true := by simpa using hxc
            have hd' := Lib.hid (show lo ++ [(x, y)] ++ setRef true (l.drop (k + 1)) c nx = setRef (nx == 0) l c nx by rw [← hrel.out, hd.out, if_neg hxc]; simp)
            clear hd hxc
            go_wp2_with (first
              | (at_builtin
                 refine wpList_append_C (w0 := w) rfl (.tmp 45) (.tmp 50) rfl _ lo rfl (World.ownsRow.alloc ho _) (hx.alloc _) _ 1 1 [(x, y)] rfl rfl (Vec.new wr x y) (by simp only [List.length_cons, List.length_nil]; omega) ?_
                 intro v2 w2 o2 x2))
            go_roundw
            case rel => exact ⟨k + 1, true, lo ++ [(x, y)], by omega, by go_num, rfl, by show _ ≤ k + 1 + 1; simp only [List.length_append, List.length_cons, List.length_nil]; omega, o2, x2, hd'⟩
            case measure => simp [intOf]; omega
        | false =>
          replace hlo : lo.length ≤ k := hlo
          rcases Int.lt_trichotomy x c with hxc | hxc | hxc
          · have h1 : (x != c) = true := by simp; omega
            have h2 : decide (c ≤ x) = false := by simp; omega
            have hd' := Lib.hid (show lo ++ [(x, y)] ++ setRef false (l.drop (k + 1)) c nx = setRef (nx == 0) l c nx by rw [← hrel.out, hd.out, if_neg (show ¬ x = c by omega), h2]; simp)
            clear hd hxc
            go_wp2_with (first
              | (at_builtin
                 refine wpList_append_C (w0 := w) rfl (.tmp 45) (.tmp 50) rfl _ lo rfl (World.ownsRow.alloc ho _) (hx.alloc _) _ 1 1 [(x, y)] rfl rfl (Vec.new wr x y) (by simp only [List.length_cons, List.length_nil]; omega) ?_
                 intro v2 w2 o2 x2))
            go_roundw
            case rel => exact ⟨k + 1, false, lo ++ [(x, y)], by omega, by go_num, rfl, by show _ ≤ k + 1; simp only [List.length_append, List.length_cons, List.length_nil]; omega, o2, x2, hd'⟩
            case measure => simp [intOf]; omega
          · have h1 : (x != c) = false := by simp; omega
            have h2 : decide (c ≤ x) = true := by simp; omega
            have hd' := Lib.hid (show lo ++ [(c, nx)] ++ setRef true (l.drop (k + 1)) c nx = setRef (nx == 0) l c nx by rw [← hrel.out, hd.out, if_pos hxc, h2]; simp)
            clear hd hxc
            go_wp2_with (first
              | (at_builtin
                 refine wpList_append_C (w0 := w) rfl (.tmp 32) (.tmp 36) rfl _ lo rfl (World.ownsRow.alloc ho _) (hx.alloc _) _ 1 1 [(c, nx)] rfl rfl (Vec.new wr c nx) (by simp only [List.length_cons, List.length_nil]; omega) ?_
                 intro v2 w2 o2 x2
                 have c0 := x2.keep d0
                 have c1 := x2.keep d1))
            go_roundw
            case rel => exact ⟨k + 1, true, lo ++ [(c, nx)], by omega, by go_num, rfl, by show _ ≤ k + 1 + 1; simp only [List.length_append, List.length_cons, List.length_nil]; omega, o2, x2, hd'⟩
            case measure => simp [intOf]; omega
          · have h1 : (x != c) = true := by simp; omega
            have h2 : decide (c ≤ x) = true := by simp; omega
            have hd' := Lib.hid (show lo ++ [(c, nx)] ++ [(x, y)] ++ setRef true (l.drop (k + 1)) c nx = setRef (nx == 0) l c nx by rw [← hrel.out, hd.out, if_neg (show ¬ x = c by omega), h2]; simp)
            clear hd hxc
            go_wp2_with (first
              | (at_builtin
                 refine wpList_append_C (w0 := w) rfl (.tmp 32) (.tmp 36) rfl _ lo rfl (World.ownsRow.alloc ho _) (hx.alloc _) _ 1 1 [(c, nx)] rfl rfl (Vec.new wr c nx) (by simp only [List.length_cons, List.length_nil]; omega) ?_
                 intro v2 w2 o2 x2
                 have c0 := x2.keep d0
                 have c1 := x2.keep d1)
              | (at_builtin
                 refine wpList_append_C (w0 := w) rfl (.tmp 45) (.tmp 50) rfl v2 (lo ++ [(c, nx)]) rfl (World.ownsRow.alloc o2 _) (x2.alloc _) _ 1 1 [(x, y)] rfl rfl (Vec.new w2 x y) (by simp only [List.length_append, List.length_cons, List.length_nil]; omega) ?_
                 intro v3 w3 o3 x3))
            go_roundw
            case rel => exact ⟨k + 1, true, lo ++ [(c, nx)] ++ [(x, y)], by omega, by go_num, rfl, by show _ ≤ k + 1 + 1; simp only [List.length_append, List.length_cons, List.length_nil]; omega, o3, x3, hd'⟩
            case measure => simp [intOf]; omega
      · have hz := Lib.hid (show l.drop k = [] from List.drop_eq_nil_of_le (by rw [hn.out]; omega))
        cases put with
        | true =>
          have hd := Lib.hid (show lo = setRef (nx == 0) l c nx by rw [← hrel.out, hz.out]; simp [setRef])
          go_wp2
          go_ret
          obtain ⟨A4, c4, e4, h4⟩ := Vec.own ho
          subst e4
          exact ⟨A4, _, c4, rfl, by rw [hs.out, ← hd.out], by rw [hs.out, ← hd.out]; exact h4, hx⟩
        | false =>
          replace hlo : lo.length ≤ k := hlo
          have hd := Lib.hid (show lo ++ [(c, nx)] = setRef (nx == 0) l c nx by rw [← hrel.out, hz.out]; simp [setRef])
          go_wp2_with (first
            | (at_builtin
               refine wpList_append_C (w0 := w) rfl (.tmp 54) (.tmp 58) rfl _ lo rfl (World.ownsRow.alloc ho _) (hx.alloc _) _ 1 1 [(c, nx)] rfl rfl (Vec.new wr c nx) (by simp only [List.length_cons, List.length_nil]; omega) ?_
               intro v2 w2 o2 x2))
          go_ret
          obtain ⟨A4, c4, e4, h4⟩ := Vec.own o2
          subst e4
          exact ⟨A4, _, c4, rfl, by rw [hs.out, ← hd.out], by rw [hs.out, ← hd.out]; exact h4, x2⟩

end Go.Proofs.Ytbniojfggiioaaa
