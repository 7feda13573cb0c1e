/-
  Apart of entries however many; what an index's reading avoids; no claim stands here.
-/
import Derived.Test.YtanknhalgoheeaaYIw
import Derived.Test.YtanknhalgoheeaaXKm
import Derived.Test.YtanknhalgoheeaaXHid
namespace Go.Proofs.Ytanknhalgoheeaa
open Go.ChangeShapes Go.WideShapes Go.ChangeAt Go.RowKit Go.Sort
set_option linter.unusedVariables false
attribute [local go_sem] World.cell?_alloc_some

theorem wpList_append_EB {w0 w : World} {ops : Array Oper} {rest : List Oper} {o : Oper} {a : Act} {Q : Exit → Act → World → Prop} (hgd : o.guard = none) (s x : Operand)
    (ho : o.op = .call { callee := .builtin .append, args := #[s, x], argTypes := #[22, 22] })
    (v : Value) (l : List En) (hs : a.eval s = v) (hown : OwnE w0 w v l) (hx : Ext w0 w)
    (A : Option Addr) (m c : Nat) (r : List En) (he : a.eval x = .slice A m c) (hm : r.length = m) (hr : EnS w A r) (hb : l.length + r.length ≤ 8796093022208)
    (h : ∀ v' w', OwnE w0 w' v' (l ++ r) → Ext w0 w' → wpList Try.prog ops Q rest (a.put o.dst v') w') : wpList Try.prog ops Q (o :: rest) a w := by
  refine wpList_plain hgd fun K hK => ?_
  obtain ⟨i, hi, hz0, hz1, hz2⟩ := info_parts infoE
  subst hm
  obtain ⟨v', w', hrun, h2, h3, h4⟩ := run_append_rowB (P := Try.prog) w w0.heap.size 22 o.type 38 i _ 4 16 Try.underlying22 hi hz0 hz1 hz2 rfl (by omega) v l.length _ hown A r.length c _ (flat_len encE_len r) hr (flat_one_cell encE_one r)
    (by unfold maxLen; omega) (by omega) hx.size
  unfold Oper.wp execOp
  simp only [ho, resolve, invoke, builtin, Sem.run_bind, Sem.run_pure, Result.andThen_ok, List.map_toArray, List.map_cons, List.map_nil, hs, he, hrun]
  refine hK _ _ (h v' w' ?_ (hx.grown h3 (OwnG.lt hown)))
  unfold OwnE OwnG
  rw [flat_append, List.length_append]
  exact h2
set_option maxRecDepth 100000 in
set_option maxHeartbeats 8000000 in
theorem apartB_any (A : Option Addr) (n cap : Nat) (l : List En) (w : World) (hv : EnS w A l) (hn : l.length = n) (hb : n ≤ 8796093022208) :
    Calls Try.prog 6 #[.slice A n cap] w (RetE w (apOf l)) := by
  replace hn := Lib.hid hn
  replace hv := Lib.hid hv
  go_enter Try.func6, Try.ntmps6
  go_wp2
  go_loopw [3, 4] (fun v i W => ∃ (j : Nat), j ≤ n ∧ i = Vi j ∧ Hid (OwnE w W v (apOf (l.take j))) ∧ Ext w W) (fun _ i _ => n - (intOf i).toNat)
  case atStart => exact ⟨0, Nat.zero_le _, rfl, Lib.hid (OwnE.nil _ _), Ext.refl _⟩
  case round =>
    obtain ⟨j, hj, rfl, ho, hx⟩ := hrel
    by_cases hlt : j < n
    · obtain ⟨b, oo, x, rfl, hp, d⟩ := hv.out.at (k := j) (by rw [hn.out]; exact hlt)
      have hst := Lib.hid (ap_take hp)
      have hol : (apOf (l.take j)).length ≤ j := by have := ap_le (l.take j); rw [List.length_take] at this; omega
      generalize apOf (l.take j) = o at *
      obtain ⟨Ao, co, rfl, hco, hEo⟩ := OwnE.open ho.out
      have hi1 : (0 : Int) ≤ (j : Int) := by omega
      have hi2 : (j : Int) < (n : Int) := by omega
      have hdx := Lib.hid (d.ext hx)
      replace hEo := Lib.hid hEo
      obtain ⟨m, hm⟩ : ∃ m, o.length = m := ⟨_, rfl⟩
      rw [hm] at hco ho hol ⊢
      replace hm := Lib.hid hm
      clear hp d
      go_wp2
      go_loopw [5, 6] (fun h i W => ∃ (q : Nat), q ≤ m ∧ i = Vi q ∧ h = .bool (hasE (o.take q) x.c x.k) ∧ Ext wr W) (fun _ i _ => m - (intOf i).toNat)
      case atStart => exact ⟨0, Nat.zero_le _, rfl, by simp [hasE], Ext.refl _⟩
      case round =>
        obtain ⟨q, hq, rfl, rfl, hx2⟩ := hrel
        have hX2 := hx.trans hx2
        obtain ⟨c0, c1, c2, c3⟩ := hdx.out.ext hx2
        by_cases hlt2 : q < m
        · obtain ⟨b', o', y, rfl, hp', d'⟩ := (hEo.out.ext hx2).at (k := q) (by rw [hm.out]; exact hlt2)
          obtain ⟨e0, e1, e2, e3⟩ := d'
          have hi3 : (0 : Int) ≤ (q : Int) := by omega
          have hi4 : (q : Int) < (m : Int) := by omega
          have hst2 := has_take (c := x.c) (k := x.k) hp'
          cases hh : hasE (o.take q) x.c x.k with
          | true =>
            rw [hh, Bool.true_or] at hst2
            replace hst2 := Lib.hid hst2
            clear hh hp'
            go_wp2
            go_quiet (fail)
            go_wp2
            go_roundw
            case rel => exact ⟨q + 1, by omega, by go_num, by rw [hst2.out], hx2.drewN _⟩
            case measure => simp [intOf]; omega
          | false =>
            rw [hh, Bool.false_or] at hst2
            obtain ⟨se, hse⟩ : ∃ se, sameE y x.c x.k = se := ⟨_, rfl⟩
            have hcmp : ∀ W : World, (binOp .eql 36 (.agg #[.int .u32 y.c, .int .u32 y.k]) (.agg #[.int .u32 x.c, .int .u32 x.k])).run Try.prog W = .ok (.bool se) W := fun W => by rw [idE_eql _ _ _ _ Try.prog, ← hse]; rfl
            rw [hse] at hst2
            replace hst2 := Lib.hid hst2
            clear hh hp' hse
            go_wp2
            go_quiet (fail)
            go_wp2
            go_roundw
            case rel => exact ⟨q + 1, by omega, by go_num, by rw [hst2.out], hx2.drewN _⟩
            case measure => simp [intOf]; omega
        · have hfull : o.take q = o := List.take_of_length_le (by rw [hm.out]; omega)
          rw [hfull] at *
          have hst3 := hst.out
          unfold apStep at hst3
          cases hh : hasE o x.c x.k with
          | true =>
            rw [hh, if_pos rfl] at hst3
            have hoe := Lib.hid (ho.out.ext hx2)
            replace hst3 := Lib.hid hst3
            clear hh hst ho hfull
            go_wp2
            go_roundw
            case rel => exact ⟨j + 1, by omega, by go_num, Lib.hid (by rw [hst3.out]; exact hoe.out), hX2⟩
            case measure => simp [intOf]; omega
          | false =>
            rw [hh, if_neg (by simp)] at hst3
            have hoe := Lib.hid (ho.out.ext hx2)
            replace hst3 := Lib.hid hst3
            clear hh hst ho hfull
            go_wp2_with (at_builtin; go_loud (refine wpList_append_EB (w0 := w) rfl (.tmp 35) (.tmp 40) rfl _ o rfl (hoe.out.ext ((Ext.refl _).alloc _)) (hX2.alloc _) _ 1 1 [x] rfl rfl (EnS.new _ x) (by simp only [List.length_cons, List.length_nil]; have := hm.out; omega) ?_; intro v3 w3 o3 x3))
            go_roundw
            case rel => exact ⟨j + 1, by omega, by go_num, Lib.hid (by rw [hst3.out]; exact o3), x3⟩
            case measure => simp [intOf]; omega
    · have hfull := Lib.hid (show l.take j = l from List.take_of_length_le (by rw [hn.out]; omega))
      rw [hfull.out] at ho
      go_wp2
      go_ret
      exact ⟨_, rfl, ho.out, hx⟩


/-- a block that holds a zero Index is no part of a tree -/
theorem PV.avoid {F : Nat → Prop} {W : World} {q : Nat} {T : TypeId} (hq : W.heap[q]? = some (.cells #[.slice none 0 0, .pointer none, .pointer none, Vi 0, Vi 0, Vi 0, Vq 0, Vq 0] T (0, 0))) :
    ∀ {t : Tr} {c l r : Value}, (t = .leaf [] ∨ okT t) → PV F W t c l r → PV (fun b => F b ∧ b ≠ q) W t c l r
  | .leaf l, c, lf, rt, _, ⟨h1, h2, A, cap, h3, h4, h5, h6⟩ => ⟨h1, h2, A, cap, h3, h4, h5, fun h0 => by
      obtain ⟨k, o, e, hf⟩ := h6 h0
      refine ⟨k, o, e, hf, fun hk => ?_⟩
      subst hk
      subst e
      obtain ⟨b', o', x, e, hx, hc⟩ := h5.at (k := 0) h0
      injection e with e
      injection e with e1 e2
      subst e1
      subst e2
      have h9 := hc.c0
      have h8 : W.cell? ⟨k, o + 0 * 4, none⟩ = (#[.slice none 0 0, .pointer none, .pointer none, Vi 0, Vi 0, Vi 0, Vq 0, Vq 0] : Array Value)[o + 0 * 4]? := by
        simp only [World.cell?, hq]
        rfl
      rw [h8] at h9
      generalize o + 0 * 4 = m at h9
      match m, h9 with
      | 0, h9 => simp at h9
      | 1, h9 => simp at h9
      | 2, h9 => simp at h9
      | 3, h9 => simp at h9
      | 4, h9 => simp at h9
      | 5, h9 => simp at h9
      | 6, h9 => simp at h9
      | 7, h9 => simp at h9
      | m + 8, h9 => simp at h9⟩
  | .node a b, c, lf, rt, hok, hv => by
      have hok : okT a ∧ okT b := by
        rcases hok with h | h
        · cases h
        · exact h
      obtain ⟨rfl, p, s, rfl, rfl, ⟨hp, ca, la, ra, xa, va⟩, hs, cb, lb, rb, xb, vb⟩ := hv
      have hz := cell_of_row W q 4 _ _ _ hq
      have hne : ∀ {p : Nat} {t : Tr} {c l r : Value} {hh ss lo hi : Int}, okT t → PtC W p c l r hh (cnt t) ss lo hi → p ≠ q := by
        intro p t c l r hh ss lo hi hok hx e
        subst e
        have h1 := hx.c4
        rw [hz] at h1
        have h2 := ok_pos hok
        simp at h1
        omega
      exact ⟨rfl, p, s, rfl, rfl, ⟨⟨hp, hne hok.1 xa⟩, ca, la, ra, xa, PV.avoid hq (.inr hok.1) va⟩, ⟨hs, hne hok.2 xb⟩, cb, lb, rb, xb, PV.avoid hq (.inr hok.2) vb⟩
theorem Ix.avoid {F : Nat → Prop} {W : World} {v : Value} {l : List En} {q : Nat} {T : TypeId} (h : Ix F W v l) (hq : W.heap[q]? = some (.cells #[.slice none 0 0, .pointer none, .pointer none, Vi 0, Vi 0, Vi 0, Vq 0, Vq 0] T (0, 0))) : Ix (fun b => F b ∧ b ≠ q) W v l := by
  obtain ⟨t, x, h1, h2, h3, h4, h5, h6, h7, h8, h9, h10⟩ := h
  exact ⟨t, x, h1, h2, h3, h4, h5, h6, h7, h8, h9.avoid hq h3, fun b hb => h10 b hb.1⟩
/-- what lies below w's top stays; an index stays one -/
def KR (w a b : World) : Prop := (Ext w a → Ext w b) ∧ ∀ (F : Nat → Prop) (v : Value) (l : List En), Ix F a v l → ∃ F' : Nat → Prop, (∀ b, F' b → F b) ∧ Ix F' b v l
theorem KR.trans {w a b c : World} (h : KR w a b) (k : KR w b c) : KR w a c :=
  ⟨fun x => k.1 (h.1 x), fun F v l hI => by
    obtain ⟨F1, h1, hI1⟩ := h.2 F v l hI
    obtain ⟨F2, h2, hI2⟩ := k.2 F1 v l hI1
    exact ⟨F2, fun b hb => h1 b (h2 b hb), hI2⟩⟩
theorem KR.ext {w a b : World} (h : Ext a b) : KR w a b := ⟨fun x => x.trans h, fun F v l hI => ⟨F, fun _ hb => hb, hI.ext h⟩⟩

end Go.Proofs.Ytanknhalgoheeaa
