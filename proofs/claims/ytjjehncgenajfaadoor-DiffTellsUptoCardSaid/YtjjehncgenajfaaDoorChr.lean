/-
  The contract of the reference's Chars; no claim stands here.
-/
import Derived.Test.YtjjehncgenajfaaDoorByt
import Derived.Test.YtjjehncgenajfaaDoorChMath
import Derived.Deep.QuietTactic
import Derived.Deep.LoopGhost
import Derived.RegionTactic
import Derived.IntWalk
namespace Go.Proofs.YtjjehncgenajfaaDoor
open Go.ChangeShapes Go.WideShapes Go.ChangeAt Go.RowKit Go.Sort
set_option linter.unusedVariables false

/-- a character's cell -/
abbrev Vr (x : Nat) : Value := .int .i32 (x : Int)
theorem infoU : (Tryd.prog.info? 21).map (fun i => (i.zero, i.size, i.bytes)) = some (some (.int .i32 0), 1, 4) := by kernel_rfl
theorem map_Vr_one (l : List Nat) : ∀ u ∈ l.map Vr, u.oneCell' = true := by intro u hu; obtain ⟨b, _, rfl⟩ := List.mem_map.1 hu; rfl
/-- characters of the call's own -/
def OwnU (w W : World) (v : Value) (l : List Nat) : Prop := OwnG 21 1 w W v l.length (l.map Vr)
theorem OwnU.nil (w W : World) : OwnU w W (.slice none 0 0) [] := OwnG.nil _ _ _ _
theorem OwnU.ext {w W W' : World} {v : Value} {l : List Nat} (h : OwnU w W v l) (hx : Ext W W') : OwnU w W' v l := OwnG.ext h hx
theorem wpList_append_U {w0 w : World} {ops : Array Oper} {rest : List Oper} {o : Oper} {a : Act} {Q : Exit → Act → World → Prop} (hgd : o.guard = none) (s x : Operand)
    (ho : o.op = .call { callee := .builtin .append, args := #[s, x], argTypes := #[23, 23] })
    (v : Value) (l : List Nat) (hs : a.eval s = v) (hown : OwnU w0 w v l) (hx : Ext w0 w)
    (A : Option Addr) (m c : Nat) (r : List Nat) (he : a.eval x = .slice A m c) (hm : r.length = m) (hr : Row w A (r.map Vr)) (hb : l.length + r.length ≤ 3000000)
    (h : ∀ v' w', OwnU w0 w' v' (l ++ r) → Ext w0 w' → w.grownBy w' v.ownBlock → wpList Tryd.prog ops Q rest (a.put o.dst v') w') : wpList Tryd.prog ops Q (o :: rest) a w := by
  obtain ⟨i, hi, hz0, hz1, hz2⟩ := info_parts infoU
  subst hm
  refine wpList_append_row w hgd s x _ ho w0.heap.size 21 i _ 1 4 Tryd.underlying23 hi hz0 hz1 hz2 rfl (by omega) v l.length _ hs hown A r.length c _ he (by simp) hr (map_Vr_one r)
    (by unfold maxLen; omega) (by omega) hx.size ?_
  intro v' w' h1 h2
  refine h v' w' ?_ (hx.grown h2 (OwnG.lt hown)) h2
  unfold OwnU OwnG
  rw [List.map_append, List.length_append]
  exact h1
theorem rowU_new (w : World) (x : Nat) (z : Int) (hz : z = x) : Row (w.alloc (.cells #[.int .i32 z] 21)) (some ⟨w.heap.size, 0, none⟩) ([x].map Vr) := by
  subst hz
  exact Row.new w #[.int .i32 (x : Int)] 21

theorem byte_bt (s : ByteArray) (i k : Nat) (h : i + k < s.size) : (s[i + k]'h).toNat = bt s.data.toList i k := by
  unfold bt
  rw [List.getD, Array.getElem?_toList, Array.getElem?_eq_getElem (h : i + k < s.data.size)]
  rfl

/-- what Chars answers -/
def CharsRet (w : World) (l : List UInt8) (e : Ending) (w' : World) : Prop :=
  (Lib.validD l = false ∧ e = .returned (.tuple #[.slice none 0 0, .bool false]) ∨ Lib.validD l = true ∧ ∃ v, e = .returned (.tuple #[v, .bool true]) ∧ OwnU w w' v (runesD l)) ∧ Ext w w'

/-- what the loop keeps -/
def ChRel (w : World) (l : List UInt8) (t i : Value) (W : World) : Prop :=
  ∃ (k : Nat) (o : List Nat), k ≤ l.length ∧ i = Vi k ∧ OwnU w W t o ∧ o.length ≤ k ∧ Lib.validD l = Lib.validD (l.drop k) ∧ runesD l = o ++ runesD (l.drop k) ∧ Ext w W

theorem clChr0 {p : Prop} (h : p := by
  first | (exfalso; omega) | (go_wp2; exact bodyPost_ret (v := .tuple #[.slice none 0 0, .bool false]) (by simp [results, Tryd.results6, go_sem]) rfl ⟨.inl ⟨hf.out, rfl⟩, hx⟩)) : p := h
theorem clChr1 {p : Prop} (h : p := by
  have hd1 : 128 ≤ d := by omega
  have hd2 : d ≤ 191 := by omega
  clear hdb hde hVe
  go_wp2
  go_round
  case rel => exact ⟨j + 1, by omega, by omega, by go_num, congrArg (Value.int .i64) (by rw [Nat.add_sub_cancel, hcv.out]; omega), by rw [Nat.add_sub_cancel]; exact hok2⟩
  case measure => simp [intOf]; omega) : p := h
theorem clChr2 {p : Prop} (h : p := by
  by_cases hv2 : 1114111 < V
  · have hv2z : (1114111 : Int) < V := by omega
    exact clChr0
  · have hv3 : (55296 : Int) ≤ V := by omega
    have hv4 : (V : Int) ≤ 57343 := by omega
    exact clChr0) : p := h
theorem clChr3 {p : Prop} (h : p := by
  clear hcv
  by_cases hd1 : d < 128
  · first | (exfalso; omega) | (go_wp2; exact bodyPost_ret (v := .tuple #[.slice none 0 0, .bool false]) (by simp [results, Tryd.results6, go_sem]) rfl ⟨.inl ⟨hf.out, rfl⟩, hx⟩)
  · have hd2 : 191 < d := by omega
    exact clChr0) : p := h
theorem clChr4 {p : Prop} (h : p := by
  go_wp2_with (at_builtin; go_loud (refine wpList_append_U (w0 := w) rfl (.tmp 90) (.tmp 93) rfl _ o rfl (ho.ext ((Ext.refl _).alloc _)) (hx.alloc _) _ 1 1 [V] rfl rfl (rowU_new _ V V rfl) (by simp only [List.length_cons, List.length_nil]; omega) ?_; intro v3 w3 o3 x3 _))
  go_roundw
  case rel => exact ⟨i + 3, _, by rw [hsz.out]; omega, by go_num, o3, by rw [List.length_append]; simp only [List.length_cons, List.length_nil]; omega, by rw [hval.out, hon.out.1], by rw [hrun.out, hon.out.2, List.append_assoc]; rfl, x3⟩
  case measure => simp [intOf]; omega) : p := h
theorem clChr5 {p : Prop} (h : p := by
  go_wp2_with (at_builtin; go_loud (refine wpList_append_U (w0 := w) rfl (.tmp 90) (.tmp 93) rfl _ o rfl (ho.ext ((Ext.refl _).alloc _)) (hx.alloc _) _ 1 1 [V] rfl rfl (rowU_new _ V V rfl) (by simp only [List.length_cons, List.length_nil]; omega) ?_; intro v3 w3 o3 x3 _))
  go_roundw
  case rel => exact ⟨i + 2, _, by rw [hsz.out]; omega, by go_num, o3, by rw [List.length_append]; simp only [List.length_cons, List.length_nil]; omega, by rw [hval.out, hon.out.1], by rw [hrun.out, hon.out.2, List.append_assoc]; rfl, x3⟩
  case measure => simp [intOf]; omega) : p := h
set_option maxRecDepth 100000 in
set_option maxHeartbeats 4000000 in
theorem chars_any (s : ByteArray) (hs : s.size ≤ 2000000) (w : World) : Calls Tryd.prog 6 #[.string s] w (CharsRet w s.data.toList) := by
  obtain ⟨l, hl⟩ : ∃ l, s.data.toList = l := ⟨_, rfl⟩
  have hsz : l.length = s.size := by rw [← hl]; exact (Lib.size_eq s).symm
  rw [hl]
  replace hl := Lib.hid hl
  replace hsz := Lib.hid hsz
  go_enter Tryd.func6, Tryd.ntmps6
  go_wp2
  go_loopw [4, 5] (ChRel w l) (fun _ i _ => s.size - (intOf i).toNat)
  case atStart => exact ⟨0, [], by omega, rfl, OwnU.nil _ _, by simp, by simp, by simp, Ext.refl _⟩
  case round =>
    obtain ⟨i, o, hi, rfl, ho, hol, hval, hrun, hx⟩ := hrel
    rw [hsz.out] at hi
    replace hval := Lib.hid hval
    replace hrun := Lib.hid hrun
    by_cases hlt : i < s.size
    · have hil := Lib.hid (show i < l.length by rw [hsz.out]; exact hlt)
      have h0 := byte_bt s i 0 hlt
      rw [hl.out] at h0
      have hs0 : (s[i]'hlt).toNat = bt l i 0 := h0
      have hb0 := bt_lt l i 0
      generalize hb : bt l i 0 = b at hs0 hb0
      replace hb := Lib.hid hb
      clear h0
      by_cases hbad : 128 ≤ b ∧ b < 192 ∨ 248 ≤ b
      · have hf := Lib.hid (show Lib.validD l = false by rw [hval.out, valid_bad hil.out (lead_none (by rw [hb.out]; exact hbad))])
        by_cases h248 : 248 ≤ b
        · go_wp2
          exact bodyPost_ret (v := .tuple #[.slice none 0 0, .bool false]) (by simp [results, Tryd.results6, go_sem]) rfl ⟨.inl ⟨hf.out, rfl⟩, hx⟩
        · have h128 : 128 ≤ b := by omega
          have h192 : b < 192 := by omega
          go_wp2
          exact bodyPost_ret (v := .tuple #[.slice none 0 0, .bool false]) (by simp [results, Tryd.results6, go_sem]) rfl ⟨.inl ⟨hf.out, rfl⟩, hx⟩
      by_cases hc4 : 240 ≤ b ∧ b < 248
      · have hlead := Lib.hid (show lead (bt l i 0) 4 (b - 240) 65536 by rw [hb.out]; unfold lead; omega)
        clear hbad
        by_cases hshort : s.size < i + 4
        · have hf := Lib.hid (show Lib.validD l = false by rw [hval.out, valid_bad hil.out (lead_short hlead.out hil.out (by rw [hsz.out]; exact hshort))])
          have hshz : (s.size : Int) < (i : Int) + 4 := by omega
          exact clChr0
        · have hshz : ¬ ((s.size : Int) < (i : Int) + 4) := by omega
          go_wp2
          go_loop [8, 10] (fun v k => ∃ j : Nat, 1 ≤ j ∧ j ≤ 4 ∧ k = Vi j ∧ v = Vi ((contV (b - 240) l i (j - 1) : Nat) : Int) ∧ Hid (contOk l i (j - 1))) (fun _ k => 4 - (intOf k).toNat)
          case atStart => exact ⟨1, by omega, by omega, rfl, congrArg (Value.int .i64) (by show _ = ((b - 240 : Nat) : Int); omega), Lib.hid (fun j h1 h2 => by omega)⟩
          case round =>
            obtain ⟨j, hj1, hjn, rfl, rfl, hok⟩ := hrel
            have hVlt := contV_lt l i (lead_v0 hlead.out) (k := j - 1) (by omega)
            by_cases hjlt : j < 4
            · have hij : i + j < s.size := by omega
              have hsj := byte_bt s i j hij
              rw [hl.out] at hsj
              have hdl := bt_lt l i j
              have hcv := Lib.hid (show contV (b - 240) l i j = 64 * contV (b - 240) l i (j - 1) + bt l i j - 128 by
                obtain ⟨q, hq⟩ : ∃ q, j = q + 1 := ⟨j - 1, by omega⟩
                subst hq
                rfl)
              by_cases hdb : bt l i j < 128 ∨ 191 < bt l i j
              · have hf := Lib.hid (show Lib.validD l = false by rw [hval.out, valid_bad hil.out (lead_cont hlead.out hj1 hjlt hdb)])
                generalize bt l i j = d at hsj hdl hdb
                generalize contV (b - 240) l i (j - 1) = V at hVlt ⊢
                exact clChr3
              · have hok2 := Lib.hid (show contOk l i j by
                  intro q h1 h2
                  rcases Nat.lt_or_ge q j with h3 | h3
                  · exact hok.out q h1 (by omega)
                  · obtain rfl : q = j := by omega
                    omega)
                generalize hde : bt l i j = d at hsj hdl hdb hcv
                generalize hVe : contV (b - 240) l i (j - 1) = V at hVlt hcv ⊢
                exact clChr1
            · obtain rfl : j = 4 := by omega
              have hlv := lead_val hlead.out hok.out (by rw [hsz.out]; omega)
              generalize contV (b - 240) l i (4 - 1) = V at hVlt hlv ⊢
              rcases hlv with ⟨hbv, hdec⟩ | ⟨hbv, hdec⟩
              · have hf := Lib.hid (show Lib.validD l = false by rw [hval.out, valid_bad hil.out hdec])
                clear hdec
                unfold badV at hbv
                by_cases hv1 : V < 65536
                · have hv1z : (V : Int) < 65536 := by omega
                  exact clChr0
                exact clChr2
              · have hon := Lib.hid (valid_on hil.out hdec (by intro hh; omega))
                unfold badV at hbv
                have hv1 : ¬ ((V : Int) < 65536) := by omega
                have hv2 : ¬ ((1114111 : Int) < V) := by omega
                have hroom : o.length + 1 ≤ 3000000 := by omega
                clear hdec
                by_cases hv3 : 55296 ≤ V
                · have hv3z : (55296 : Int) ≤ V := by omega
                  have hv4 : ¬ ((V : Int) ≤ 57343) := by omega
                  go_wp2_with (at_builtin; go_loud (refine wpList_append_U (w0 := w) rfl (.tmp 90) (.tmp 93) rfl _ o rfl (ho.ext ((Ext.refl _).alloc _)) (hx.alloc _) _ 1 1 [V] rfl rfl (rowU_new _ V V rfl) (by simp only [List.length_cons, List.length_nil]; omega) ?_; intro v3 w3 o3 x3 _))
                  go_roundw
                  case rel => exact ⟨i + 4, _, by rw [hsz.out]; omega, by go_num, o3, by rw [List.length_append]; simp only [List.length_cons, List.length_nil]; omega, by rw [hval.out, hon.out.1], by rw [hrun.out, hon.out.2, List.append_assoc]; rfl, x3⟩
                  case measure => simp [intOf]; omega
                · exfalso; omega
      by_cases hc3 : 224 ≤ b ∧ b < 240
      · have hlead := Lib.hid (show lead (bt l i 0) 3 (b - 224) 2048 by rw [hb.out]; unfold lead; omega)
        clear hbad
        by_cases hshort : s.size < i + 3
        · have hf := Lib.hid (show Lib.validD l = false by rw [hval.out, valid_bad hil.out (lead_short hlead.out hil.out (by rw [hsz.out]; exact hshort))])
          have hshz : (s.size : Int) < (i : Int) + 3 := by omega
          exact clChr0
        · have hshz : ¬ ((s.size : Int) < (i : Int) + 3) := by omega
          go_wp2
          go_loop [8, 10] (fun v k => ∃ j : Nat, 1 ≤ j ∧ j ≤ 3 ∧ k = Vi j ∧ v = Vi ((contV (b - 224) l i (j - 1) : Nat) : Int) ∧ Hid (contOk l i (j - 1))) (fun _ k => 3 - (intOf k).toNat)
          case atStart => exact ⟨1, by omega, by omega, rfl, congrArg (Value.int .i64) (by show _ = ((b - 224 : Nat) : Int); omega), Lib.hid (fun j h1 h2 => by omega)⟩
          case round =>
            obtain ⟨j, hj1, hjn, rfl, rfl, hok⟩ := hrel
            have hVlt := contV_lt l i (lead_v0 hlead.out) (k := j - 1) (by omega)
            by_cases hjlt : j < 3
            · have hij : i + j < s.size := by omega
              have hsj := byte_bt s i j hij
              rw [hl.out] at hsj
              have hdl := bt_lt l i j
              have hcv := Lib.hid (show contV (b - 224) l i j = 64 * contV (b - 224) l i (j - 1) + bt l i j - 128 by
                obtain ⟨q, hq⟩ : ∃ q, j = q + 1 := ⟨j - 1, by omega⟩
                subst hq
                rfl)
              by_cases hdb : bt l i j < 128 ∨ 191 < bt l i j
              · have hf := Lib.hid (show Lib.validD l = false by rw [hval.out, valid_bad hil.out (lead_cont hlead.out hj1 hjlt hdb)])
                generalize bt l i j = d at hsj hdl hdb
                generalize contV (b - 224) l i (j - 1) = V at hVlt ⊢
                exact clChr3
              · have hok2 := Lib.hid (show contOk l i j by
                  intro q h1 h2
                  rcases Nat.lt_or_ge q j with h3 | h3
                  · exact hok.out q h1 (by omega)
                  · obtain rfl : q = j := by omega
                    omega)
                generalize hde : bt l i j = d at hsj hdl hdb hcv
                generalize hVe : contV (b - 224) l i (j - 1) = V at hVlt hcv ⊢
                exact clChr1
            · obtain rfl : j = 3 := by omega
              have hlv := lead_val hlead.out hok.out (by rw [hsz.out]; omega)
              generalize contV (b - 224) l i (3 - 1) = V at hVlt hlv ⊢
              rcases hlv with ⟨hbv, hdec⟩ | ⟨hbv, hdec⟩
              · have hf := Lib.hid (show Lib.validD l = false by rw [hval.out, valid_bad hil.out hdec])
                clear hdec
                unfold badV at hbv
                by_cases hv1 : V < 2048
                · have hv1z : (V : Int) < 2048 := by omega
                  exact clChr0
                exact clChr2
              · have hon := Lib.hid (valid_on hil.out hdec (by intro hh; omega))
                unfold badV at hbv
                have hv1 : ¬ ((V : Int) < 2048) := by omega
                have hv2 : ¬ ((1114111 : Int) < V) := by omega
                have hroom : o.length + 1 ≤ 3000000 := by omega
                clear hdec
                by_cases hv3 : 55296 ≤ V
                · have hv3z : (55296 : Int) ≤ V := by omega
                  have hv4 : ¬ ((V : Int) ≤ 57343) := by omega
                  exact clChr4
                · have hv3z : ¬ ((55296 : Int) ≤ V) := by omega
                  exact clChr4
      by_cases hc2 : 192 ≤ b ∧ b < 224
      · have hlead := Lib.hid (show lead (bt l i 0) 2 (b - 192) 128 by rw [hb.out]; unfold lead; omega)
        clear hbad
        by_cases hshort : s.size < i + 2
        · have hf := Lib.hid (show Lib.validD l = false by rw [hval.out, valid_bad hil.out (lead_short hlead.out hil.out (by rw [hsz.out]; exact hshort))])
          have hshz : (s.size : Int) < (i : Int) + 2 := by omega
          exact clChr0
        · have hshz : ¬ ((s.size : Int) < (i : Int) + 2) := by omega
          go_wp2
          go_loop [8, 10] (fun v k => ∃ j : Nat, 1 ≤ j ∧ j ≤ 2 ∧ k = Vi j ∧ v = Vi ((contV (b - 192) l i (j - 1) : Nat) : Int) ∧ Hid (contOk l i (j - 1))) (fun _ k => 2 - (intOf k).toNat)
          case atStart => exact ⟨1, by omega, by omega, rfl, congrArg (Value.int .i64) (by show _ = ((b - 192 : Nat) : Int); omega), Lib.hid (fun j h1 h2 => by omega)⟩
          case round =>
            obtain ⟨j, hj1, hjn, rfl, rfl, hok⟩ := hrel
            have hVlt := contV_lt l i (lead_v0 hlead.out) (k := j - 1) (by omega)
            by_cases hjlt : j < 2
            · have hij : i + j < s.size := by omega
              have hsj := byte_bt s i j hij
              rw [hl.out] at hsj
              have hdl := bt_lt l i j
              have hcv := Lib.hid (show contV (b - 192) l i j = 64 * contV (b - 192) l i (j - 1) + bt l i j - 128 by
                obtain ⟨q, hq⟩ : ∃ q, j = q + 1 := ⟨j - 1, by omega⟩
                subst hq
                rfl)
              by_cases hdb : bt l i j < 128 ∨ 191 < bt l i j
              · have hf := Lib.hid (show Lib.validD l = false by rw [hval.out, valid_bad hil.out (lead_cont hlead.out hj1 hjlt hdb)])
                generalize bt l i j = d at hsj hdl hdb
                generalize contV (b - 192) l i (j - 1) = V at hVlt ⊢
                exact clChr3
              · have hok2 := Lib.hid (show contOk l i j by
                  intro q h1 h2
                  rcases Nat.lt_or_ge q j with h3 | h3
                  · exact hok.out q h1 (by omega)
                  · obtain rfl : q = j := by omega
                    omega)
                generalize hde : bt l i j = d at hsj hdl hdb hcv
                generalize hVe : contV (b - 192) l i (j - 1) = V at hVlt hcv ⊢
                exact clChr1
            · obtain rfl : j = 2 := by omega
              have hlv := lead_val hlead.out hok.out (by rw [hsz.out]; omega)
              generalize contV (b - 192) l i (2 - 1) = V at hVlt hlv ⊢
              rcases hlv with ⟨hbv, hdec⟩ | ⟨hbv, hdec⟩
              · have hf := Lib.hid (show Lib.validD l = false by rw [hval.out, valid_bad hil.out hdec])
                clear hdec
                unfold badV at hbv
                by_cases hv1 : V < 128
                · have hv1z : (V : Int) < 128 := by omega
                  exact clChr0
                exact clChr2
              · have hon := Lib.hid (valid_on hil.out hdec (by intro hh; omega))
                unfold badV at hbv
                have hv1 : ¬ ((V : Int) < 128) := by omega
                have hv2 : ¬ ((1114111 : Int) < V) := by omega
                have hroom : o.length + 1 ≤ 3000000 := by omega
                clear hdec
                by_cases hv3 : 55296 ≤ V
                · have hv3z : (55296 : Int) ≤ V := by omega
                  have hv4 : ¬ ((V : Int) ≤ 57343) := by omega
                  exact clChr5
                · have hv3z : ¬ ((55296 : Int) ≤ V) := by omega
                  exact clChr5
      by_cases hc1 : b < 128
      · have hlead := Lib.hid (show lead (bt l i 0) 1 (b) 0 by rw [hb.out]; unfold lead; omega)
        clear hbad
        by_cases hshort : s.size < i + 1
        · have hf := Lib.hid (show Lib.validD l = false by rw [hval.out, valid_bad hil.out (lead_short hlead.out hil.out (by rw [hsz.out]; exact hshort))])
          have hshz : (s.size : Int) < (i : Int) + 1 := by omega
          exact clChr0
        · have hshz : ¬ ((s.size : Int) < (i : Int) + 1) := by omega
          go_wp2
          go_loop [8, 10] (fun v k => ∃ j : Nat, 1 ≤ j ∧ j ≤ 1 ∧ k = Vi j ∧ v = Vi ((contV (b) l i (j - 1) : Nat) : Int) ∧ Hid (contOk l i (j - 1))) (fun _ k => 1 - (intOf k).toNat)
          case atStart => exact ⟨1, by omega, by omega, rfl, congrArg (Value.int .i64) (by show _ = ((b : Nat) : Int); omega), Lib.hid (fun j h1 h2 => by omega)⟩
          case round =>
            obtain ⟨j, hj1, hjn, rfl, rfl, hok⟩ := hrel
            have hVlt := contV_lt l i (lead_v0 hlead.out) (k := j - 1) (by omega)
            by_cases hjlt : j < 1
            · exfalso; omega
            · obtain rfl : j = 1 := by omega
              have hlv := lead_val hlead.out hok.out (by rw [hsz.out]; omega)
              have hb1v : contV (b) l i (1 - 1) < 128 := by show b < 128; omega
              generalize contV (b) l i (1 - 1) = V at hVlt hlv hb1v ⊢
              rcases hlv with ⟨hbv, hdec⟩ | ⟨hbv, hdec⟩
              · have hf := Lib.hid (show Lib.validD l = false by rw [hval.out, valid_bad hil.out hdec])
                clear hdec
                unfold badV at hbv
                by_cases hv1 : V < 0
                · have hv1z : (V : Int) < 0 := by omega
                  exact clChr0
                exact clChr2
              · have hon := Lib.hid (valid_on hil.out hdec (by intro hh; have h9 := hb1v; omega))
                unfold badV at hbv
                have hv1 : ¬ ((V : Int) < 0) := by omega
                have hv2 : ¬ ((1114111 : Int) < V) := by omega
                have hroom : o.length + 1 ≤ 3000000 := by omega
                clear hdec
                by_cases hv3 : 55296 ≤ V
                · exfalso; omega
                · have hv3z : ¬ ((55296 : Int) ≤ V) := by omega
                  go_wp2_with (at_builtin; go_loud (refine wpList_append_U (w0 := w) rfl (.tmp 90) (.tmp 93) rfl _ o rfl (ho.ext ((Ext.refl _).alloc _)) (hx.alloc _) _ 1 1 [V] rfl rfl (rowU_new _ V V rfl) (by simp only [List.length_cons, List.length_nil]; omega) ?_; intro v3 w3 o3 x3 _))
                  go_roundw
                  case rel => exact ⟨i + 1, _, by rw [hsz.out]; omega, by go_num, o3, by rw [List.length_append]; simp only [List.length_cons, List.length_nil]; omega, by rw [hval.out, hon.out.1], by rw [hrun.out, hon.out.2, List.append_assoc]; rfl, x3⟩
                  case measure => simp [intOf]; omega
      · omega
    · have hend : l.drop i = [] := List.drop_eq_nil_of_le (by rw [hsz.out]; omega)
      rw [hend, Lib.validD_nil] at hval
      rw [hend, runesD_nil, List.append_nil] at hrun
      clear hend
      go_wp2
      exact bodyPost_ret (v := .tuple #[_, .bool true]) (by simp [results, Tryd.results6, go_sem]) rfl ⟨.inr ⟨hval.out, _, rfl, hrun.out ▸ ho⟩, hx⟩

end Go.Proofs.YtjjehncgenajfaaDoor
