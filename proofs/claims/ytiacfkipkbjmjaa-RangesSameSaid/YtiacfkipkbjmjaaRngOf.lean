/-
  Contracts of ranges.Of and ranges.Join; no claim stands here.
-/
import Derived.Test.YtiacfkipkbjmjaaRngAdd
namespace Go.Proofs.Ytiacfkipkbjmjaa
open Go.ChangeShapes Go.WideShapes Go.ChangeAt Go.RowKit Go.Sort
set_option linter.unusedVariables false
attribute [local go_sem] World.cell?_alloc_some

theorem good_drop {l : List (Int × Int × Int)} {k : Nat} {p : Int × Int × Int} (h : l[k]? = some p) : (l.drop k).filter goodB = (if goodB p then [p] else []) ++ (l.drop (k + 1)).filter goodB := by
  obtain ⟨hk, e⟩ := List.getElem?_eq_some_iff.1 h
  rw [List.drop_eq_getElem_cons hk, e]
  cases hg : goodB p with
  | true => rw [List.filter_cons_of_pos hg]; rfl
  | false => rw [List.filter_cons_of_neg (by simp [hg])]; rfl
theorem addAll_drop {r : List (Int × Int × Int)} {k : Nat} {p : Int × Int × Int} (h : r[k]? = some p) (o : List (Int × Int × Int)) : addAll o (r.drop k) = addAll (addOf o p) (r.drop (k + 1)) := by
  obtain ⟨hk, e⟩ := List.getElem?_eq_some_iff.1 h
  rw [List.drop_eq_getElem_cons hk, e, addAll_cons]

/-- what Of's first loop keeps -/
def OfRel (w : World) (n : Nat) (l : List (Int × Int × Int)) (v i : Value) (W : World) : Prop :=
  ∃ (k : Nat) (lo : List (Int × Int × Int)) (g m c : Nat), k ≤ n ∧ i = .int .i64 k ∧ v = .slice (some ⟨g, 0, none⟩) m c ∧ Hid (lo.length = m) ∧ w.heap.size ≤ g ∧ g < W.heap.size ∧ m ≤ k ∧ Hid (OwnS w W v lo) ∧ Ext w W ∧ Hid (lo ++ (l.drop k).filter goodB = l.filter goodB)
/-- what Of's second loop keeps -/
def OfRel2 (w : World) (m : Nat) (r : List (Int × Int × Int)) (v i : Value) (W : World) : Prop :=
  ∃ (k : Nat) (o : List (Int × Int × Int)), k ≤ m ∧ i = .int .i64 k ∧ o.length ≤ k ∧ Hid (OwnS w W v o) ∧ Ext w W ∧ Hid (addAll o (r.drop k) = addAll [] r)

set_option maxHeartbeats 2000000 in
theorem of_any (A : Option Addr) (n cap : Nat) (l : List (Int × Int × Int)) (w : World) (hv : SpS w A l) (hn : l.length = n) (hw : wfS l) (hb : n ≤ 1000) :
    Calls Try.prog 8 #[.slice A n cap] w (RetS w (setOfS l)) := by
  replace hn := Lib.hid hn
  replace hv := Lib.hid hv
  replace hw := Lib.hid hw
  have hmk := roomS_run n (by omega) (n : Int) rfl
  go_enter Try.func8, Try.ntmps8
  go_wp2
  go_loopw [3, 14] (OfRel w n l) (fun _ i _ => n - (intOf i).toNat)
  case atStart => exact ⟨0, [], _, 0, n, Nat.zero_le _, rfl, rfl, Lib.hid rfl, Nat.le_refl _, by simp, Nat.le_refl _, Lib.hid (OwnS.room (Ext.refl w) n (by omega)), (Ext.refl _).alloc _, Lib.hid (by simp)⟩
  case round =>
    clear hmk
    obtain ⟨k, lo, g, m, c, hk, rfl, rfl, hm, hg0, hg1, hmk, ho, hx, hrel⟩ := hrel
    by_cases hlt : k < n
    · obtain ⟨b, o, x, y, z, rfl, hp, d0, d1, d2⟩ := hv.out.at (k := k) (by rw [hn.out]; exact hlt)
      have hwf := wfS_at hw.out hp
      have c0 := hx.keep d0
      have c1 := hx.keep d1
      have c2 := hx.keep d2
      have hd := Lib.hid (good_drop hp)
      clear hp
      have hcall := Lib.hid (fun W => empty_any x y z W hwf.1)
      cases hgo : goodB (x, y, z) with
      | false =>
        rw [hgo] at hcall hd
        have hd' := Lib.hid (show lo ++ (l.drop (k + 1)).filter goodB = l.filter goodB by rw [← hrel.out, hd.out]; rfl)
        clear hd hrel hgo
        go_wp2_with fail
        refine (hcall.out _).mono ?_
        rintro e w1 ⟨rfl, x1⟩
        have x1' := ((Ext.refl wr).alloc _).trans x1
        go_wp2
        go_roundw
        case rel => exact ⟨k + 1, lo, g, m, c, by omega, by go_num, rfl, hm, hg0, x1'.lt hg1, by omega, Lib.hid (ho.out.ext x1'), hx.trans x1', hd'⟩
        case measure => simp [intOf]; omega
      | true =>
        rw [hgo] at hcall hd
        have hd' := Lib.hid (show lo ++ [(x, y, z)] ++ (l.drop (k + 1)).filter goodB = l.filter goodB by rw [← hrel.out, hd.out]; simp)
        clear hd hrel hgo
        go_wp2_with fail
        refine (hcall.out _).mono ?_
        rintro e w1 ⟨rfl, x1⟩
        have q0 := x1.keep (p := ⟨wr.heap.size, 0, none⟩) (v := Vu x) (by simp [go_sem])
        have q1 := x1.keep (p := ⟨wr.heap.size, 1, none⟩) (v := Vu y) (by simp [go_sem])
        have q2 := x1.keep (p := ⟨wr.heap.size, 2, none⟩) (v := Vu z) (by simp [go_sem])
        have x1' := ((Ext.refl wr).alloc _).trans x1
        clear x1
        generalize wr.heap.size = py at *
        have ho1 := Lib.hid (ho.out.ext x1')
        have hx1 := hx.trans x1'
        go_wp2_with (first
          | (at_builtin
             refine wpList_append_S (w0 := w) rfl (.tmp 21) (.tmp 23) rfl _ lo rfl (ho1.out.alloc _) (hx1.alloc _) _ 1 1 [(x, y, z)] rfl rfl (SpS.new _ x y z) (by simp [hm.out]; omega) ?_
             intro v2 w2 o2 x2 g2))
        obtain ⟨g3, c3, e3, hg3, hg4⟩ := OwnS.block o2 (by simp)
        replace e3 : v2 = .slice (some ⟨g3, 0, none⟩) (m + 1) c3 := by rw [e3]; simp [hm.out]
        subst e3
        replace o2 := Lib.hid o2
        go_roundw
        case rel => exact ⟨k + 1, lo ++ [(x, y, z)], g3, m + 1, c3, by omega, by go_num, rfl, Lib.hid (by simp [hm.out]), hg3, hg4, by omega, o2, x2, hd'⟩
        case measure => simp [intOf]; omega
    · have hz := Lib.hid (show lo = l.filter goodB by rw [← hrel.out, List.drop_eq_nil_of_le (by rw [hn.out]; omega)]; simp)
      clear hrel
      have hso := sortS_any g c w.heap.size lo wr (by have := ho.out; unfold OwnS at this; rwa [← hm.out] at this) (by exact hg1) (by rw [hm.out]; omega)
      rw [hm.out] at hso
      replace hso := Lib.hid hso
      go_wp2_with fail
      refine hso.out.mono ?_
      rintro e w2 ⟨rfl, r, hperm, hrise, hsr, hxs⟩
      have x2 := hxs w hx hg0
      clear hxs hso ho hx hg1 hg0
      have hset := Lib.hid (addAll_set (l := l) (by rw [← hz.out]; exact hperm) hrise)
      have hrl := Lib.hid (show r.length = m by rw [hperm.length_eq, hm.out])
      clear hperm hrise hz hm
      replace hsr := Lib.hid hsr
      have hmk2 := roomS_run m (by omega) (m : Int) rfl
      go_wp2
      go_loopw [6, 33] (OfRel2 w2 m r) (fun _ i _ => m - (intOf i).toNat)
      case atStart => exact ⟨0, [], Nat.zero_le _, rfl, Nat.le_refl _, Lib.hid (OwnS.room (Ext.refl w2) m (by omega)), (Ext.refl _).alloc _, Lib.hid (by simp)⟩
      case round =>
        clear hmk2
        obtain ⟨k2, o, hk2, rfl, hol, ho, hx, hrel⟩ := hrel
        by_cases hlt2 : k2 < m
        · obtain ⟨b, o', x, y, z, e, hp, d0, d1, d2⟩ := hsr.out.at (k := k2) (by rw [hrl.out]; exact hlt2)
          injection e with e
          injection e with e1 e2
          subst e1
          subst e2
          rw [Nat.zero_add] at d0 d1 d2
          have c0 := hx.keep d0
          have c1 := hx.keep d1
          have c2 := hx.keep d2
          have hd := Lib.hid (show addAll (addOf o (x, y, z)) (r.drop (k2 + 1)) = addAll [] r by rw [← hrel.out, addAll_drop hp])
          clear hp hrel
          go_wp2_with fail
          refine (add_any w2 _ _ o x y z (ho.out.alloc _) (hx.alloc _) (by omega)).mono ?_
          rintro e w3 ⟨v3, rfl, o3, x3⟩
          replace o3 := Lib.hid o3
          have hl3 := add_len o (x, y, z)
          go_wp2
          go_roundw
          case rel => exact ⟨k2 + 1, _, by omega, by go_num, by omega, o3, x3, hd⟩
          case measure => simp [intOf]; omega
        · have hz := Lib.hid (show o = setOfS l by rw [← hset.out, ← hrel.out, List.drop_eq_nil_of_le (by rw [hrl.out]; omega)]; rfl)
          go_wp2
          go_ret
          obtain ⟨A4, c4, e4, h4⟩ := SpS.own ho.out
          subst e4
          exact ⟨A4, _, c4, rfl, by rw [← hz.out], OwnS.cap ho.out, by rw [← hz.out]; exact h4, x2.trans hx⟩

end Go.Proofs.Ytiacfkipkbjmjaa
