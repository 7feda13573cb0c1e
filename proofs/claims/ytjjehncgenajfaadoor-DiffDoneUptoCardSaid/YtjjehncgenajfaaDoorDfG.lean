/-
  The landed diff: how much two texts begin with alike, how much they end with alike, the first characters' bytes; no claim stands here.
-/
import Derived.Test.YtjjehncgenajfaaDoorDfL
import Derived.Test.YtjjehncgenajfaaDoorDfLa
import Derived.Test.YtjjehncgenajfaaDoorVsT
import Derived.Deep.DeepCutAuto
import Derived.Deep.CutBlock
import Derived.BigQuiet
import Derived.Lib.QuietBelow
namespace Go.Proofs.YtjjehncgenajfaaDoor
open Go.ChangeShapes Go.WideShapes Go.ChangeAt Go.RowKit Go.Sort
set_option linter.unusedVariables false
attribute [local go_sem] World.cell?_alloc_some

theorem cp_same {a b : List Nat} {k : Nat} (h : k ≤ cpN a b) : a.take k = b.take k := by
  have := congrArg (List.take k) (cp_take a b)
  rwa [List.take_take, List.take_take, Nat.min_eq_left h] at this
theorem cp_stop {a b : List Nat} {k : Nat} (hk : k ≤ cpN a b) (h : ∀ c, a[k]? = some c → b[k]? ≠ some c) : cpN a b = k := by
  rcases Nat.lt_or_ge k (cpN a b) with hlt | hge
  · have hl := cp_le a b
    have ht := congrArg (fun l : List Nat => l[k]?) (cp_take a b)
    simp only [List.getElem?_take, if_pos hlt] at ht
    have hc : a[k]? = some (a[k]'(by omega)) := List.getElem?_eq_getElem (by omega)
    exact absurd (ht ▸ hc) (h _ hc)
  · omega
theorem cp_go {a b : List Nat} {k c : Nat} (hk : k ≤ cpN a b) (ha : a[k]? = some c) (hb : b[k]? = some c) : k + 1 ≤ cpN a b := by
  obtain ⟨h1, _⟩ := List.getElem?_eq_some_iff.1 ha
  obtain ⟨h2, _⟩ := List.getElem?_eq_some_iff.1 hb
  refine cp_ge (by omega) (by omega) ?_
  rw [List.take_add_one, List.take_add_one, ha, hb, cp_same hk]
theorem encU_lt (x : List Nat) (k : Nat) (h : k < x.length) : (encU (x.take k)).length < (encU x).length := by
  have h1 := congrArg List.length (encU_split x k)
  rw [List.length_append] at h1
  have := encU_pos (l := x.drop k) (by intro e; have := congrArg List.length e; rw [List.length_drop, List.length_nil] at this; omega)
  omega
theorem encU_le (x : List Nat) (k : Nat) : (encU (x.take k)).length ≤ (encU x).length := by
  have h1 := congrArg List.length (encU_split x k)
  rw [List.length_append] at h1
  omega
/-- s[lo:], s[:hi], s[lo:hi] of a text -/
theorem sFrom (l : List UInt8) (k : Nat) (h : k ≤ l.length) (z : Int) (hz : z = k) (W : World) : (Instr.slice 9 (Vs l) (some (.int .i64 z)) none none).run Tryd.prog W = .ok (Vs (l.drop k)) W := by
  subst hz
  have hsz : (⟨l.toArray⟩ : ByteArray).size = l.length := by show l.toArray.size = _; simp
  rw [run_slice_string_l W 9 ⟨l.toArray⟩ Tryd.underlying9 .i64 _ (by omega) (by rw [hsz]; omega), Lib.extract_eq]
  simp [hsz, List.take_of_length_le]
theorem sTo (l : List UInt8) (k : Nat) (h : k ≤ l.length) (z : Int) (hz : z = k) (W : World) : (Instr.slice 9 (Vs l) none (some (.int .i64 z)) none).run Tryd.prog W = .ok (Vs (l.take k)) W := by
  subst hz
  have hsz : (⟨l.toArray⟩ : ByteArray).size = l.length := by show l.toArray.size = _; simp
  rw [run_slice_string_h W 9 ⟨l.toArray⟩ Tryd.underlying9 .i64 _ (by omega) (by rw [hsz]; omega), Lib.extract_eq]
  simp
theorem sMid (l : List UInt8) (j k : Nat) (h0 : j ≤ k) (h : k ≤ l.length) (x z : Int) (hx : x = j) (hz : z = k) (W : World) : (Instr.slice 9 (Vs l) (some (.int .i64 x)) (some (.int .i64 z)) none).run Tryd.prog W = .ok (Vs ((l.drop j).take (k - j))) W := by
  subst hx
  subst hz
  have hsz : (⟨l.toArray⟩ : ByteArray).size = l.length := by show l.toArray.size = _; simp
  rw [run_slice_string W 9 ⟨l.toArray⟩ .i64 .i64 _ _ Tryd.underlying9 (by omega) (by omega) (by rw [hsz]; omega), Lib.extract_eq]
  simp

set_option maxRecDepth 100000 in
set_option maxHeartbeats 4000000 in
theorem size_df (x : List Nat) (hx : okL x) (hl : (encU x).length ≤ 100000) (k : Nat) (hk : k ≤ x.length) (w : World) (hT : Tabs w) :
    Calls Tryd.prog 16 #[Vs (encU x), Vi (k : Int)] w fun e w' => e = .returned (Vi ((encU (x.take k)).length : Nat)) ∧ Ext w w' := by
  have hk9 : k ≤ 100000 := by
    have := encU_split x x.length
    have key : ∀ l : List Nat, l.length ≤ (encU l).length := by
      intro l
      induction l with
      | nil => simp
      | cons n l ih =>
        rw [encU_cons, List.length_append, List.length_cons]
        have := (enc_len (n : Int)).1
        omega
    have := key x
    omega
  go_enter Tryd.func16, Tryd.ntmps16
  go_wp2_with fail
  go_loopw [5, 9] (fun s i W => ∃ j : Nat, j ≤ k ∧ s = Vi ((encU (x.take j)).length : Nat) ∧ i = Vi (j : Nat) ∧ Ext w W) (fun _ i _ => k - (intOf i).toNat)
  case atStart => exact ⟨0, Nat.zero_le _, by simp [encU], rfl, Ext.refl _⟩
  case round =>
    obtain ⟨j, hj, rfl, rfl, hX⟩ := hrel
    by_cases hlt : j < k
    · obtain ⟨c, hc⟩ : ∃ c, x[j]? = some c := ⟨_, List.getElem?_eq_getElem (by omega)⟩
      have hd := Lib.hid (dec_head x hx j c hc)
      have hm := encU_more x j c hc
      have hle := encU_le x (j + 1)
      rw [hm] at hle
      have hf := fun W => sFrom (encU x) (encU (x.take j)).length (encU_le x j) _ rfl W
      rw [encU_drop] at hf
      have hcl := Lib.hid (fun W (h : Tabs W) => decode_df (encU (x.drop j)) W h)
      rw [show Lib.decodeGo ⟨(encU (x.drop j)).toArray⟩ = _ from hd.out] at hcl
      dsimp only at hcl
      generalize hL : (encU (x.take j)).length = L at *
      generalize hE : (Lib.encodeRune (c : Int)).length = E at *
      replace hm := Lib.hid hm
      have hLE : L + E ≤ 100000 := by omega
      clear hle
      go_wp2_with fail
      refine (hcl.out _ (hT.ext hX)).mono ?_
      rintro e w2 ⟨rfl, x2⟩
      clear hcl hd
      go_wp2
      go_roundw
      case rel => exact ⟨j + 1, by omega, by rw [hm.out]; go_num, by go_num, hX.trans x2⟩
      case measure => simp [intOf]; omega
    · obtain rfl : j = k := by omega
      go_wp2
      go_ret
      exact ⟨rfl, hX⟩

set_option maxRecDepth 100000 in
set_option maxHeartbeats 4000000 in
theorem begin_df (x y : List Nat) (hx : okL x) (hy : okL y) (hl : (encU x).length ≤ 100000) (hl2 : (encU y).length ≤ 100000) (w : World) (hT : Tabs w) :
    Calls Tryd.prog 12 #[Vs (encU x), Vs (encU y)] w fun e w' => e = .returned (Vi ((encU (x.take (cpN x y))).length : Nat)) ∧ Ext w w' := by
  obtain ⟨n, hn⟩ : ∃ n, (encU x).length = n := ⟨_, rfl⟩
  have hn0 := hn
  go_enter Tryd.func12, Tryd.ntmps12
  go_wp2_with fail
  go_loopw [5] (fun s W => ∃ k : Nat, Hid (k ≤ cpN x y) ∧ s = Vi ((encU (x.take k)).length : Nat) ∧ Ext w W) (fun s _ => n - (intOf s).toNat)
  case atStart => exact ⟨0, Lib.hid (Nat.zero_le _), by simp [encU], Ext.refl _⟩
  case round =>
    obtain ⟨k, hk, rfl, hX⟩ := hrel
    have hcl := cp_le x y
    by_cases hlt : k < x.length
    · obtain ⟨c, hc⟩ : ∃ c, x[k]? = some c := ⟨_, List.getElem?_eq_getElem hlt⟩
      have hd := Lib.hid (dec_head x hx k c hc)
      have hok : okCh (c : Int) := hx c (List.mem_of_getElem? hc)
      have hp := pre_enc hok (hy.drop k)
      rw [head_at] at hp
      have hm := encU_more x k c hc
      have hle := encU_le x (k + 1)
      rw [hm] at hle
      have hcut := encU_lt x k hlt
      have hks := hk.out
      have hyl : (encU (y.take k)).length = (encU (x.take k)).length := by rw [cp_same hks]
      have hye := encU_le y k
      have f1 := fun W => sFrom (encU x) (encU (x.take k)).length (encU_le x k) _ rfl W
      rw [encU_drop] at f1
      have f2 := fun W => sFrom (encU y) (encU (y.take k)).length hye _ rfl W
      rw [encU_drop, hyl] at f2
      have f3 := fun W z hz => sMid (encU x) (encU (x.take k)).length ((encU (x.take k)).length + (Lib.encodeRune (c : Int)).length) (by omega) hle _ z rfl hz W
      rw [encU_drop, Nat.add_sub_cancel_left] at f3
      have hch : (encU (x.drop k)).take (Lib.encodeRune (c : Int)).length = Lib.encodeRune (c : Int) := by
        obtain ⟨hk1, hk2⟩ := List.getElem?_eq_some_iff.1 hc
        rw [List.drop_eq_getElem_cons hk1, hk2, encU_cons, List.take_left]
      rw [hch] at f3
      have hcl := Lib.hid (fun W (h : Tabs W) => decode_df (encU (x.drop k)) W h)
      rw [show Lib.decodeGo ⟨(encU (x.drop k)).toArray⟩ = _ from hd.out] at hcl
      dsimp only at hcl
      have hpc := Lib.hid (fun W => pre_df (encU (y.drop k)) (Lib.encodeRune (c : Int)) W)
      rw [hp] at hpc
      generalize hL : (encU (x.take k)).length = L at *
      generalize hE : (Lib.encodeRune (c : Int)).length = E at *
      replace hm := Lib.hid hm
      have hwr : IntKind.i64.wrap ((L : Int) + (E : Int)) = (L : Int) + (E : Int) := IntWalk.i64_in _ (by omega)
      have f4 := fun W => f3 W ((L : Int) + (E : Int)) (by omega)
      have hLE : L + E ≤ 100000 := by omega
      have hLx : L < n := by omega
      have hEp : 1 ≤ E := by rw [← hE]; exact (enc_len (c : Int)).1
      have hmu : n - (L + E) < n - L := by omega
      clear hd hp hle hcut hye f3 hyl hch hE hn hks
      cases hq : decide (y[k]? = some c) with
      | true =>
        rw [hq] at hpc
        have hk2 := Lib.hid (cp_go hk.out hc (of_decide_eq_true hq))
        clear hq hc hok
        go_wp2_with fail
        all_goals
          refine (hcl.out _ (hT.ext hX)).mono ?_
          rintro e w2 ⟨rfl, x2⟩
          clear hcl
          go_wp2_with fail
          refine wp_region_quiet_below (by kernel_rfl) (by kernel_rfl) ?_
          repeat go_big_quiet_step ((with_reducible exact Calls.in_regrown (hpc.out _)))
          refine wpQuiet_nil ?_
          intro _ hw'
          obtain ⟨⟨dq, osq⟩, hw''⟩ := hw'
          subst hw''
          go_wp2
          go_roundw
          case rel => exact ⟨k + 1, hk2, by rw [hm.out]; go_num, (hX.trans x2).trans (Ext.regrown _ _ _)⟩
          case measure => simp [intOf]; omega
      | false =>
        rw [hq] at hpc
        have hk2 := Lib.hid (cp_stop hk.out (fun d hd => by rw [hc] at hd; obtain rfl := Option.some.inj hd; exact of_decide_eq_false hq))
        clear hq hc hok
        go_wp2_with fail
        refine (hcl.out _ (hT.ext hX)).mono ?_
        rintro e w2 ⟨rfl, x2⟩
        clear hcl
        go_wp2_with fail
        refine wp_region_quiet_below (by kernel_rfl) (by kernel_rfl) ?_
        repeat go_big_quiet_step ((with_reducible exact Calls.in_regrown (hpc.out _)))
        refine wpQuiet_nil ?_
        intro _ hw'
        obtain ⟨⟨dq, osq⟩, hw''⟩ := hw'
        subst hw''
        go_wp2
        go_ret
        exact ⟨by rw [hk2.out, hL]; first | done | rfl, (hX.trans x2).trans (Ext.regrown _ _ _)⟩
    · have hkx : k = x.length := by have := hk.out; omega
      have hk2 := Lib.hid (show cpN x y = k by have := hk.out; omega)
      have he : (encU (x.take k)).length = n := by rw [hkx, List.take_length, hn0]
      rw [he]
      replace he := Lib.hid he
      clear hlt hcl hkx
      go_wp2
      go_ret
      exact ⟨by rw [hk2.out, he.out]; first | done | rfl, hX⟩

theorem encR_split (r : List Nat) (k : Nat) : encU r.reverse = encU (r.drop k).reverse ++ encU (r.take k).reverse := by
  rw [← encU_app, ← List.reverse_append, List.take_append_drop]
theorem encR_cut (r : List Nat) (k : Nat) : (encU r.reverse).take (encU (r.drop k).reverse).length = encU (r.drop k).reverse := by
  rw [encR_split r k, List.take_left]
theorem encR_more (r : List Nat) (k c : Nat) (h : r[k]? = some c) : encU (r.drop k).reverse = encU (r.drop (k + 1)).reverse ++ Lib.encodeRune (c : Int) := by
  obtain ⟨hk1, hk2⟩ := List.getElem?_eq_some_iff.1 h
  rw [List.drop_eq_getElem_cons hk1, hk2, List.reverse_cons, encU_app, encU_one]
theorem okL.rev {l : List Nat} (h : okL l) : okL l.reverse := fun n hn => h n (List.mem_reverse.1 hn)

set_option maxRecDepth 100000 in
set_option maxHeartbeats 4000000 in
theorem end_df (x y : List Nat) (hx : okL x) (hy : okL y) (hl : (encU x.reverse).length ≤ 100000) (hl2 : (encU y.reverse).length ≤ 100000) (w : World) (hT : Tabs w) :
    Calls Tryd.prog 14 #[Vs (encU x.reverse), Vs (encU y.reverse)] w fun e w' => e = .returned (Vi ((encU (x.take (cpN x y)).reverse).length : Nat)) ∧ Ext w w' := by
  obtain ⟨n, hn⟩ : ∃ n, (encU x.reverse).length = n := ⟨_, rfl⟩
  obtain ⟨m, hmy⟩ : ∃ n, (encU y.reverse).length = n := ⟨_, rfl⟩
  have hn0 := hn
  go_enter Tryd.func14, Tryd.ntmps14
  go_wp2_with fail
  go_loopw [5] (fun s W => ∃ k : Nat, Hid (k ≤ cpN x y) ∧ s = Vi ((encU (x.take k).reverse).length : Nat) ∧ Ext w W) (fun s _ => n - (intOf s).toNat)
  case atStart => exact ⟨0, Lib.hid (Nat.zero_le _), by simp [encU], Ext.refl _⟩
  case round =>
    obtain ⟨k, hk, rfl, hX⟩ := hrel
    have hcl := cp_le x y
    by_cases hlt : k < x.length
    · obtain ⟨c, hc⟩ : ∃ c, x[k]? = some c := ⟨_, List.getElem?_eq_getElem hlt⟩
      have hok : okCh (c : Int) := hx c (List.mem_of_getElem? hc)
      have hp := suf_enc hok (hy.drop k).rev
      rw [List.reverse_reverse, head_at] at hp
      have hm := encR_more x k c hc
      have hsx := congrArg List.length (encR_split x k)
      have hsx2 := congrArg List.length (encR_split x (k + 1))
      have hsy := congrArg List.length (encR_split y k)
      have hm2 := congrArg List.length hm
      rw [List.length_append] at hsx hsx2 hsy hm2
      have hks := hk.out
      have hyl : (encU (y.take k).reverse).length = (encU (x.take k).reverse).length := by rw [cp_same hks]
      rw [hyl] at hsy
      have hlast : Lib.decodeLastL (encU (x.drop k).reverse) = (c, (Lib.encodeRune (c : Int)).length) := by rw [hm]; exact last_enc c hok _
      have hcl := Lib.hid (fun W (h : Tabs W) => last_df (encU (x.drop k).reverse) (by omega) W h)
      rw [hlast] at hcl
      dsimp only at hcl
      have f1 := fun W z hz => sTo (encU x.reverse) (encU (x.drop k).reverse).length (by omega) z hz W
      rw [encR_cut] at f1
      have f2 := fun W z hz => sTo (encU y.reverse) (encU (y.drop k).reverse).length (by omega) z hz W
      rw [encR_cut] at f2
      have f3 := fun W z hz => sFrom (encU (x.drop k).reverse) (encU (x.drop (k + 1)).reverse).length (by omega) z hz W
      rw [show (encU (x.drop k).reverse).drop (encU (x.drop (k + 1)).reverse).length = Lib.encodeRune (c : Int) by rw [hm, List.drop_left]] at f3
      have hpc := Lib.hid (fun W => suf_df (encU (y.drop k).reverse) (Lib.encodeRune (c : Int)) (by omega) W)
      rw [hp] at hpc
      have hEp : 1 ≤ (Lib.encodeRune (c : Int)).length := (enc_len (c : Int)).1
      have hw1 : IntKind.i64.wrap ((n : Int) - ((encU (x.take k).reverse).length : Int)) = (n : Int) - ((encU (x.take k).reverse).length : Int) := IntWalk.i64_in _ (by omega)
      have hw2 : IntKind.i64.wrap ((m : Int) - ((encU (x.take k).reverse).length : Int)) = (m : Int) - ((encU (x.take k).reverse).length : Int) := IntWalk.i64_in _ (by omega)
      have hw3 : IntKind.i64.wrap (((encU (x.drop k).reverse).length : Int) - ((Lib.encodeRune (c : Int)).length : Int)) = ((encU (x.drop k).reverse).length : Int) - ((Lib.encodeRune (c : Int)).length : Int) := IntWalk.i64_in _ (by omega)
      have g1 := fun W => f1 W ((n : Int) - ((encU (x.take k).reverse).length : Int)) (by omega)
      have g2 := fun W => f2 W ((m : Int) - ((encU (x.take k).reverse).length : Int)) (by omega)
      have g3 := fun W => f3 W (((encU (x.drop k).reverse).length : Int) - ((Lib.encodeRune (c : Int)).length : Int)) (by omega)
      have hnew : (encU (x.take (k + 1)).reverse).length = (encU (x.take k).reverse).length + (Lib.encodeRune (c : Int)).length := by omega
      clear f1 f2 f3 hlast hp
      generalize hL : (encU (x.take k).reverse).length = L at *
      generalize hE : (Lib.encodeRune (c : Int)).length = E at *
      generalize hR : (encU (x.drop k).reverse).length = R at *
      generalize (encU (x.drop (k + 1)).reverse).length = R2 at *
      generalize (encU (y.drop k).reverse).length = S at *
      have hwr : IntKind.i64.wrap ((L : Int) + (E : Int)) = (L : Int) + (E : Int) := IntWalk.i64_in _ (by omega)
      have hLE : L + E ≤ 100000 := by omega
      have hLx : L < n := by omega
      have hmu : n - (L + E) < n - L := by omega
      replace hnew := Lib.hid hnew
      clear hm hm2 hsx hsx2 hsy hyl hE hn hks
      cases hq : decide (y[k]? = some c) with
      | true =>
        rw [hq] at hpc
        have hk2 := Lib.hid (cp_go hk.out hc (of_decide_eq_true hq))
        clear hq hc hok
        go_wp2_with fail
        all_goals
          refine (hcl.out _ (hT.ext hX)).mono ?_
          rintro e w2 ⟨rfl, x2⟩
          clear hcl
          go_wp2_with fail
          refine wp_region_quiet_below (by kernel_rfl) (by kernel_rfl) ?_
          repeat go_big_quiet_step ((with_reducible exact Calls.in_regrown (hpc.out _)))
          refine wpQuiet_nil ?_
          intro _ hw'
          obtain ⟨⟨dq, osq⟩, hw''⟩ := hw'
          subst hw''
          go_wp2
          go_roundw
          case rel => exact ⟨k + 1, hk2, by rw [hnew.out]; go_num, (hX.trans x2).trans (Ext.regrown _ _ _)⟩
          case measure => simp [intOf]; omega
      | false =>
        rw [hq] at hpc
        have hk2 := Lib.hid (cp_stop hk.out (fun d hd => by rw [hc] at hd; obtain rfl := Option.some.inj hd; exact of_decide_eq_false hq))
        clear hq hc hok
        go_wp2_with fail
        refine (hcl.out _ (hT.ext hX)).mono ?_
        rintro e w2 ⟨rfl, x2⟩
        clear hcl
        go_wp2_with fail
        refine wp_region_quiet_below (by kernel_rfl) (by kernel_rfl) ?_
        repeat go_big_quiet_step ((with_reducible exact Calls.in_regrown (hpc.out _)))
        refine wpQuiet_nil ?_
        intro _ hw'
        obtain ⟨⟨dq, osq⟩, hw''⟩ := hw'
        subst hw''
        go_wp2
        go_ret
        exact ⟨by rw [hk2.out, hL]; first | done | rfl, (hX.trans x2).trans (Ext.regrown _ _ _)⟩
    · have hkx : k = x.length := by have := hk.out; omega
      have hk2 := Lib.hid (show cpN x y = k by have := hk.out; omega)
      have he : (encU (x.take k).reverse).length = n := by rw [hkx, List.take_length, hn0]
      rw [he]
      replace he := Lib.hid he
      clear hlt hcl hkx
      go_wp2
      go_ret
      exact ⟨by rw [hk2.out, he.out]; first | done | rfl, hX⟩

end Go.Proofs.YtjjehncgenajfaaDoor
