/-
  What reads a tree of chunks: isChunk, find, at, entry; no claim stands here.
-/
import Derived.Test.YtanknhalgoheeaaYMem
namespace Go.Proofs.Ytanknhalgoheeaa
open Go.ChangeShapes Go.WideShapes Go.ChangeAt Go.RowKit Go.Sort
set_option linter.unusedVariables false
attribute [local go_sem] World.cell?_alloc_some

theorem leaf_any (b : Nat) (w : World) (h1 : w.cell? ⟨b, 1, none⟩ = some Vnil) : Calls Try.prog 32 #[Vp b] w fun e w' => e = .returned (.bool true) ∧ w = w' := by
  go_enter Try.func32, Try.ntmps32
  go_wp2
  go_ret
  exact ⟨rfl, rfl⟩
theorem node_any (b p : Nat) (w : World) (h1 : w.cell? ⟨b, 1, none⟩ = some (Vp p)) : Calls Try.prog 32 #[Vp b] w fun e w' => e = .returned (.bool false) ∧ w = w' := by
  go_enter Try.func32, Try.ntmps32
  go_wp2
  go_ret
  exact ⟨rfl, rfl⟩

/-- what find tells -/
def fndV (l : List En) (c k : Int) : Int := match findE l c k with
  | none => 0
  | some i => (i : Int)
def fndB (l : List En) (c k : Int) : Bool := (findE l c k).isSome

set_option maxRecDepth 100000 in
set_option maxHeartbeats 4000000 in
theorem findIn_any (A : Option Addr) (n cap : Nat) (l : List En) (c k : Int) (w : World) (hv : EnS w A l) (hn : l.length = n) (hb : n ≤ 100000) :
    Calls Try.prog 36 #[.slice A n cap, idv c k] w fun e w' => e = .returned (.tuple #[Vi (fndV l c k), .bool (fndB l c k)]) ∧ Ext w w' := by
  obtain ⟨R, hR⟩ : ∃ R : Option Nat, findE l c k = R := ⟨_, rfl⟩
  have hR0 := Lib.hid (show (findE (l.drop 0) c k).map (· + 0) = R by rw [← hR, List.drop_zero]; cases findE l c k <;> rfl)
  obtain ⟨V, hV⟩ : ∃ V, fndV l c k = V := ⟨_, rfl⟩
  obtain ⟨B, hB⟩ : ∃ B, fndB l c k = B := ⟨_, rfl⟩
  have hsome := Lib.hid (show ∀ j, R = some j → V = (j : Int) ∧ B = true by
    intro j h
    rw [← hV, ← hB]
    unfold fndV fndB
    rw [hR, h]
    exact ⟨rfl, rfl⟩)
  have hnone := Lib.hid (show R = none → V = 0 ∧ B = false by
    intro h
    rw [← hV, ← hB]
    unfold fndV fndB
    rw [hR, h]
    exact ⟨rfl, rfl⟩)
  rw [hV, hB]
  clear hR hV hB
  replace hn := Lib.hid hn
  replace hv := Lib.hid hv
  go_enter Try.func36, Try.ntmps36
  go_wp2
  have x0 : Ext w (w.alloc (.cells #[.int .u32 c, .int .u32 k] 36)) := (Ext.refl _).alloc _
  have a0 : (w.alloc (.cells #[.int .u32 c, .int .u32 k] 36)).cell? ⟨w.heap.size, 0, none⟩ = some (Vu c) := by simp [go_sem]
  have a1 : (w.alloc (.cells #[.int .u32 c, .int .u32 k] 36)).cell? ⟨w.heap.size, 1, none⟩ = some (Vu k) := by simp [go_sem]
  generalize w.alloc (.cells #[.int .u32 c, .int .u32 k] 36) = w0 at *
  generalize w.heap.size = pa at *
  go_loopw [10] (fun i W => ∃ (j : Nat), j ≤ n ∧ i = Vi j ∧ Hid ((findE (l.drop j) c k).map (· + j) = R) ∧ Ext w0 W) (fun i _ => n - (intOf i).toNat)
  case atStart => exact ⟨0, Nat.zero_le _, rfl, hR0, Ext.refl _⟩
  case round =>
    clear hR0
    obtain ⟨j, hj, rfl, hrel, hx⟩ := hrel
    have y0 := hx.keep a0
    have y1 := hx.keep a1
    by_cases hlt : j < n
    · obtain ⟨b, o, x, rfl, hp, d⟩ := (hv.out.ext (x0.trans hx)).at (k := j) (by rw [hn.out]; exact hlt)
      obtain ⟨c0, c1, c2, c3⟩ := d
      have hi1 : (0 : Int) ≤ (j : Int) := by omega
      have hi2 : (j : Int) < (n : Int) := by omega
      by_cases hs : x.c = c ∧ x.k = k
      · have hd : decide (x.c = c ∧ x.k = k) = true := decide_eq_true hs
        have hr := Lib.hid (show R = some j by rw [← hrel.out, find_here hp (by unfold sameE; exact hd)]; simp)
        have hq : ∀ W : World, (binOp .eql 36 (.agg #[.int .u32 x.c, .int .u32 x.k]) (.agg #[.int .u32 c, .int .u32 k])).run Try.prog W = .ok (.bool true) W := fun W => by rw [idE_eql _ _ _ _ Try.prog, hd]
        clear hs hd hp hrel
        go_wp2
        exact bodyPost_ret (v := .tuple #[Vi j, .bool true]) (by simp [results, Try.results36, go_sem]) rfl ⟨by rw [(hsome.out j hr.out).1, (hsome.out j hr.out).2], (x0.trans hx).alloc _⟩
      · have hd : decide (x.c = c ∧ x.k = k) = false := decide_eq_false hs
        have hr := Lib.hid (show (findE (l.drop (j + 1)) c k).map (· + (j + 1)) = R by
          rw [← hrel.out, find_drop hp (by unfold sameE; exact hd)]
          cases findE (l.drop (j + 1)) c k with
          | none => rfl
          | some i => simp; omega)
        have hq : ∀ W : World, (binOp .eql 36 (.agg #[.int .u32 x.c, .int .u32 x.k]) (.agg #[.int .u32 c, .int .u32 k])).run Try.prog W = .ok (.bool false) W := fun W => by rw [idE_eql _ _ _ _ Try.prog, hd]
        clear hs hd hp hrel
        go_wp2
        go_roundw
        case rel => exact ⟨j + 1, by omega, by go_num, hr, hx.alloc _⟩
        case measure => simp [intOf]; omega
    · have hz := Lib.hid (show R = none by rw [← hrel.out, List.drop_eq_nil_of_le (by rw [hn.out]; omega)]; rfl)
      go_wp2
      exact bodyPost_ret (v := .tuple #[Vi 0, .bool false]) (by simp [results, Try.results36, go_sem]) rfl ⟨by rw [(hnone.out hz.out).1, (hnone.out hz.out).2], x0.trans hx⟩

set_option maxRecDepth 100000 in
set_option maxHeartbeats 4000000 in
theorem atIn_any (A : Option Addr) (n cap : Nat) (l : List En) (q p : Nat) (w : World) (hv : EnS w A l) (hn : l.length = n) (hb : n ≤ 100000) (hp : (shownE l)[q]? = some p) :
    Calls Try.prog 37 #[.slice A n cap, Vi (q : Int)] w fun e w' => e = .returned (Vi (p : Int)) ∧ w = w' := by
  have hq0 := Lib.hid (show (shownG 0 (l.drop 0))[q]? = some p from hp)
  have hqb : q ≤ 100000 := by
    have h1 := (List.getElem?_eq_some_iff.1 hp).1
    have h2 := shown_len l 0
    unfold shownE at h1
    omega
  clear hp
  replace hn := Lib.hid hn
  replace hv := Lib.hid hv
  go_enter Try.func37, Try.ntmps37
  go_wp2
  go_loopw [1, 5] (fun kk i W => ∃ (j q : Nat), j ≤ n ∧ q ≤ 100000 ∧ i = Vi j ∧ kk = Vi q ∧ Hid ((shownG j (l.drop j))[q]? = some p) ∧ W = w) (fun _ i _ => n - (intOf i).toNat)
  case atStart => exact ⟨0, q, Nat.zero_le _, hqb, rfl, rfl, hq0, rfl⟩
  case round =>
    clear hq0 hqb
    clear q
    obtain ⟨j, q, hj, hqb, rfl, rfl, hrel, rfl⟩ := hrel
    have hlt : j < n := by
      rcases Nat.lt_or_ge j n with h | h
      · exact h
      · have := hrel.out
        rw [List.drop_eq_nil_of_le (by rw [hn.out]; exact h)] at this
        simp [shownG] at this
    obtain ⟨b, o, x, rfl, hp, d⟩ := hv.out.at (k := j) (by rw [hn.out]; exact hlt)
    obtain ⟨c0, c1, c2, c3⟩ := d
    have hi1 : (0 : Int) ≤ (j : Int) := by omega
    have hi2 : (j : Int) < (n : Int) := by omega
    have hst := shown_step hp
    cases hg : x.g with
    | true =>
      rw [hg] at c3
      rw [hg, if_pos rfl] at hst
      have hr := Lib.hid (show (shownG (j + 1) (l.drop (j + 1)))[q]? = some p by rw [← hrel.out, hst])
      clear hst hp hrel hg
      go_wp2
      go_roundw
      case rel => exact ⟨j + 1, q, by omega, hqb, by go_num, rfl, hr, trivial⟩
      case measure => simp [intOf]; omega
    | false =>
      rw [hg] at c3
      rw [hg, if_neg (by simp)] at hst
      rcases Nat.eq_zero_or_pos q with h0 | h0
      · subst h0
        have hr := Lib.hid (show j = p by have := hrel.out; rw [hst] at this; simpa using this)
        clear hst hp hrel hg
        go_wp2
        go_ret
        exact ⟨by rw [hr.out]; rfl, rfl⟩
      · obtain ⟨q', rfl⟩ : ∃ q', q = q' + 1 := ⟨q - 1, by omega⟩
        have hr := Lib.hid (show (shownG (j + 1) (l.drop (j + 1)))[q']? = some p by have := hrel.out; rw [hst] at this; simpa using this)
        have hd : decide (0 < ((q' + 1 : Nat) : Int)) = true := by rw [decide_eq_true_eq]; omega
        have hd2 : decide ((0 : Int) < (q' : Int) + 1) = true := by rw [decide_eq_true_eq]; omega
        clear hst hp hrel hg
        go_wp2
        go_roundw
        case rel => exact ⟨j + 1, q', by omega, by omega, by go_num, by go_num, hr, trivial⟩
        case measure => simp [intOf]; omega


theorem fnd_left {l m : List En} {c k : Int} (h : fndB l c k = true) : fndV (l ++ m) c k = fndV l c k ∧ fndB (l ++ m) c k = true := by
  unfold fndV fndB at *
  rw [find_append]
  cases hf : findE l c k with
  | none => rw [hf] at h; cases h
  | some i => exact ⟨rfl, rfl⟩
theorem fnd_right {l m : List En} {c k : Int} (h : fndB l c k = false) (h2 : fndB m c k = true) : fndV (l ++ m) c k = (l.length : Int) + fndV m c k ∧ fndB (l ++ m) c k = true := by
  unfold fndV fndB at *
  rw [find_append]
  cases hf : findE l c k with
  | some i => rw [hf] at h; cases h
  | none =>
    cases hm : findE m c k with
    | none => rw [hm] at h2; cases h2
    | some j =>
      refine ⟨?_, rfl⟩
      show ((l.length + j : Nat) : Int) = (l.length : Int) + (j : Int)
      omega
theorem fnd_not {l m : List En} {c k : Int} (h : fndB l c k = false) (h2 : fndB m c k = false) : fndV (l ++ m) c k = 0 ∧ fndB (l ++ m) c k = false := by
  unfold fndV fndB at *
  rw [find_append]
  cases hf : findE l c k with
  | some i => rw [hf] at h; cases h
  | none =>
    cases hm : findE m c k with
    | some i => rw [hm] at h2; cases h2
    | none => exact ⟨rfl, rfl⟩
theorem fnd_bound (l : List En) (c k : Int) : 0 ≤ fndV l c k ∧ fndV l c k ≤ l.length := by
  cases h : findE l c k with
  | none => unfold fndV; rw [h]; simp
  | some i =>
    have := find_lt h
    have e : fndV l c k = (i : Int) := by unfold fndV; rw [h]
    rw [e]
    omega

set_option maxRecDepth 100000 in
set_option maxHeartbeats 16000000 in
theorem find_any {F : Nat → Prop} (c k : Int) : ∀ (t : Tr) (b : Nat) (w : World), AtP F w b t → cnt t ≤ 100000 →
    Calls Try.prog 25 #[Vp b, idv c k] w fun e w' => e = .returned (.tuple #[Vi (fndV (ents t) c k), .bool (fndB (ents t) c k)]) ∧ Ext w w' := by
  intro t
  induction t with
  | leaf l =>
    rintro b w ⟨_, ch, lf, rt, ⟨p0, p1, p2, p3, p4, p5, p6, p7⟩, rfl, rfl, A, cap, rfl, hcap, hE, _⟩ hb
    have hlen : l.length ≤ 100000 := hb
    have hk := Lib.hid (fun W => key_any c k W)
    have hfi := Lib.hid (fun W (hx : Ext w W) => findIn_any A l.length cap l c k W (hE.ext hx) rfl hlen)
    obtain ⟨LO, hLO⟩ : ∃ x, loT (.leaf l) = x := ⟨_, rfl⟩
    obtain ⟨HI, hHI⟩ : ∃ x, hiT (.leaf l) = x := ⟨_, rfl⟩
    have hout := Lib.hid (show (keyV c k < LO ∨ HI < keyV c k) → findE l c k = none by rw [← hLO, ← hHI]; exact fun h => find_out (t := .leaf l) h)
    rw [hLO] at p6
    rw [hHI] at p7
    clear hLO hHI
    show Calls Try.prog 25 #[Vp b, idv c k] w fun e w' => e = .returned (.tuple #[Vi (fndV l c k), .bool (fndB l c k)]) ∧ Ext w w'
    generalize keyV c k = K at *
    obtain ⟨V, hV⟩ : ∃ V, fndV l c k = V := ⟨_, rfl⟩
    obtain ⟨B, hB⟩ : ∃ B, fndB l c k = B := ⟨_, rfl⟩
    have ho2 := Lib.hid (show (K < LO ∨ HI < K) → V = 0 ∧ B = false by
      intro h
      have := hout.out h
      rw [← hV, ← hB]
      unfold fndV fndB
      rw [this]
      exact ⟨rfl, rfl⟩)
    rw [hV, hB] at hfi ⊢
    clear hV hB hout hE hb hcap hlen p3 p4 p5 p2
    go_enter Try.func25, Try.ntmps25
    go_wp2_with fail
    have x0 : Ext w (w.alloc (.cells #[.int .u32 c, .int .u32 k] 36)) := (Ext.refl _).alloc _
    have a0 : (w.alloc (.cells #[.int .u32 c, .int .u32 k] 36)).cell? ⟨w.heap.size, 0, none⟩ = some (Vu c) := by simp [go_sem]
    have a1 : (w.alloc (.cells #[.int .u32 c, .int .u32 k] 36)).cell? ⟨w.heap.size, 1, none⟩ = some (Vu k) := by simp [go_sem]
    have q0 := x0.keep p0
    have q1 := x0.keep p1
    have s6 := cell_regrown (x0.keep p6)
    have s7 := cell_regrown (x0.keep p7)
    have s0 := cell_regrown a0
    have s1 := cell_regrown a1
    clear p0 p1 p6 p7
    generalize w.alloc (.cells #[.int .u32 c, .int .u32 k] 36) = w0 at *
    generalize w.heap.size = pa at *
    by_cases h1 : K < LO
    · have hd : decide (K < LO) = true := decide_eq_true h1
      refine wp_region_quiet_below (by kernel_rfl) (by kernel_rfl) ?_
      repeat go_big_quiet_step ((with_reducible exact Calls.in_regrown (hk.out _)))
      refine wpQuiet_nil ?_
      intro _ hw'
      obtain ⟨⟨dq, osq⟩, hw''⟩ := hw'
      subst hw''
      go_wp2
      exact bodyPost_ret (v := .tuple #[Vi 0, .bool false]) (by simp [results, Try.results25, go_sem]) rfl ⟨by rw [(ho2.out (.inl h1)).1, (ho2.out (.inl h1)).2], x0.trans (Ext.regrown _ _ _)⟩
    · have hd : decide (K < LO) = false := decide_eq_false h1
      by_cases h2 : HI < K
      · have hd2 : decide (HI < K) = true := decide_eq_true h2
        refine wp_region_quiet_below (by kernel_rfl) (by kernel_rfl) ?_
        repeat go_big_quiet_step ((with_reducible exact Calls.in_regrown (hk.out _)))
        refine wpQuiet_nil ?_
        intro _ hw'
        obtain ⟨⟨dq, osq⟩, hw''⟩ := hw'
        subst hw''
        go_wp2
        exact bodyPost_ret (v := .tuple #[Vi 0, .bool false]) (by simp [results, Try.results25, go_sem]) rfl ⟨by rw [(ho2.out (.inr h2)).1, (ho2.out (.inr h2)).2], x0.trans (Ext.regrown _ _ _)⟩
      · have hd2 : decide (HI < K) = false := decide_eq_false h2
        refine wp_region_quiet_below (by kernel_rfl) (by kernel_rfl) ?_
        repeat go_big_quiet_step ((with_reducible exact Calls.in_regrown (hk.out _)))
        refine wpQuiet_nil ?_
        intro _ hw'
        obtain ⟨⟨dq, osq⟩, hw''⟩ := hw'
        subst hw''
        have x1 := x0.trans (Ext.regrown w0 dq osq)
        have q0 := (Ext.regrown w0 dq osq).keep q0
        have q1 := (Ext.regrown w0 dq osq).keep q1
        have a0 := (Ext.regrown w0 dq osq).keep a0
        have a1 := (Ext.regrown w0 dq osq).keep a1
        clear s0 s1 s6 s7
        generalize grow (redrawn w0 dq) osq = w1 at *
        have hl := Lib.hid (leaf_any b w1 q1)
        go_wp2_with fail
        refine hl.out.mono ?_
        rintro e w1' ⟨rfl, rfl⟩
        have s0 := cell_regrown q0
        have s1 := cell_regrown a0
        have s2 := cell_regrown a1
        go_wp2_with fail
        refine wp_region_quiet_below (by kernel_rfl) (by kernel_rfl) ?_
        repeat go_big_quiet_step ((with_reducible exact Calls.in_regrown (hfi.out _ (x1.trans (Ext.regrown _ _ _)))))
        refine wpQuiet_nil ?_
        intro _ hw'
        obtain ⟨⟨dq, osq⟩, hw''⟩ := hw'
        subst hw''
        go_wp2
        exact bodyPost_ret (v := .tuple #[Vi V, .bool B]) (by simp [results, Try.results25, go_sem]) rfl ⟨rfl, x1.trans (Ext.regrown _ _ _)⟩
  | node ta tb iha ihb =>
    rintro b w ⟨_, ch, lf, rt, ⟨p0, p1, p2, p3, p4, p5, p6, p7⟩, hPV⟩ hb
    obtain ⟨rfl, p, q, rfl, rfl, hA, hB⟩ := hPV.node
    rw [cnt_node] at hb
    have hk := Lib.hid (fun W => key_any c k W)
    have hfa := Lib.hid (fun W (hx : Ext w W) => iha p W (hA.ext hx) (by omega))
    have hfb := Lib.hid (fun W (hx : Ext w W) => ihb q W (hB.ext hx) (by omega))
    obtain ⟨_, cha, lfa, rta, ⟨_, _, _, _, l4, _, _, _⟩, _⟩ := hA
    obtain ⟨LO, hLO⟩ : ∃ x, loT (.node ta tb) = x := ⟨_, rfl⟩
    obtain ⟨HI, hHI⟩ : ∃ x, hiT (.node ta tb) = x := ⟨_, rfl⟩
    have hout := Lib.hid (show (keyV c k < LO ∨ HI < keyV c k) → findE (ents (.node ta tb)) c k = none by rw [← hLO, ← hHI]; exact fun h => find_out h)
    rw [hLO] at p6
    rw [hHI] at p7
    clear hLO hHI
    generalize keyV c k = K at *
    obtain ⟨V, hV⟩ : ∃ V, fndV (ents (.node ta tb)) c k = V := ⟨_, rfl⟩
    obtain ⟨B, hBB⟩ : ∃ B, fndB (ents (.node ta tb)) c k = B := ⟨_, rfl⟩
    have ho2 := Lib.hid (show (K < LO ∨ HI < K) → V = 0 ∧ B = false by
      intro h
      have := hout.out h
      rw [← hV, ← hBB]
      unfold fndV fndB
      rw [this]
      exact ⟨rfl, rfl⟩)
    have hL := Lib.hid (show fndB (ents ta) c k = true → V = fndV (ents ta) c k ∧ B = true by rw [← hV, ← hBB]; exact fnd_left)
    have hR := Lib.hid (show fndB (ents ta) c k = false → fndB (ents tb) c k = true → V = (cnt ta : Int) + fndV (ents tb) c k ∧ B = true by rw [← hV, ← hBB]; exact fnd_right)
    have hN := Lib.hid (show fndB (ents ta) c k = false → fndB (ents tb) c k = false → V = 0 ∧ B = false by rw [← hV, ← hBB]; exact fnd_not)
    have hbd := fnd_bound (ents tb) c k
    have hbd2 : ((ents tb).length : Int) = (cnt tb : Int) := rfl
    rw [hbd2] at hbd
    rw [hV, hBB]
    clear hV hBB hout p3 p4 p5 p0 hB hPV iha ihb hbd2
    generalize fndV (ents ta) c k = VA at *
    generalize fndB (ents ta) c k = BA at *
    generalize fndV (ents tb) c k = VB at *
    generalize fndB (ents tb) c k = BB at *
    generalize cnt ta = na at *
    generalize cnt tb = nb at *
    go_enter Try.func25, Try.ntmps25
    go_wp2_with fail
    have x0 : Ext w (w.alloc (.cells #[.int .u32 c, .int .u32 k] 36)) := (Ext.refl _).alloc _
    have a0 : (w.alloc (.cells #[.int .u32 c, .int .u32 k] 36)).cell? ⟨w.heap.size, 0, none⟩ = some (Vu c) := by simp [go_sem]
    have a1 : (w.alloc (.cells #[.int .u32 c, .int .u32 k] 36)).cell? ⟨w.heap.size, 1, none⟩ = some (Vu k) := by simp [go_sem]
    have q1 := x0.keep p1
    have q2 := x0.keep p2
    have q4 := x0.keep l4
    have s6 := cell_regrown (x0.keep p6)
    have s7 := cell_regrown (x0.keep p7)
    have s0 := cell_regrown a0
    have s1 := cell_regrown a1
    clear p1 p2 p6 p7 l4
    generalize w.alloc (.cells #[.int .u32 c, .int .u32 k] 36) = w0 at *
    generalize w.heap.size = pa at *
    by_cases h1 : K < LO
    · have hd : decide (K < LO) = true := decide_eq_true h1
      refine wp_region_quiet_below (by kernel_rfl) (by kernel_rfl) ?_
      repeat go_big_quiet_step ((with_reducible exact Calls.in_regrown (hk.out _)))
      refine wpQuiet_nil ?_
      intro _ hw'
      obtain ⟨⟨dq, osq⟩, hw''⟩ := hw'
      subst hw''
      go_wp2
      exact bodyPost_ret (v := .tuple #[Vi 0, .bool false]) (by simp [results, Try.results25, go_sem]) rfl ⟨by rw [(ho2.out (.inl h1)).1, (ho2.out (.inl h1)).2], x0.trans (Ext.regrown _ _ _)⟩
    · have hd : decide (K < LO) = false := decide_eq_false h1
      by_cases h2 : HI < K
      · have hd2 : decide (HI < K) = true := decide_eq_true h2
        refine wp_region_quiet_below (by kernel_rfl) (by kernel_rfl) ?_
        repeat go_big_quiet_step ((with_reducible exact Calls.in_regrown (hk.out _)))
        refine wpQuiet_nil ?_
        intro _ hw'
        obtain ⟨⟨dq, osq⟩, hw''⟩ := hw'
        subst hw''
        go_wp2
        exact bodyPost_ret (v := .tuple #[Vi 0, .bool false]) (by simp [results, Try.results25, go_sem]) rfl ⟨by rw [(ho2.out (.inr h2)).1, (ho2.out (.inr h2)).2], x0.trans (Ext.regrown _ _ _)⟩
      · have hd2 : decide (HI < K) = false := decide_eq_false h2
        refine wp_region_quiet_below (by kernel_rfl) (by kernel_rfl) ?_
        repeat go_big_quiet_step ((with_reducible exact Calls.in_regrown (hk.out _)))
        refine wpQuiet_nil ?_
        intro _ hw'
        obtain ⟨⟨dq, osq⟩, hw''⟩ := hw'
        subst hw''
        have x1 := x0.trans (Ext.regrown w0 dq osq)
        have q1 := (Ext.regrown w0 dq osq).keep q1
        have q2 := (Ext.regrown w0 dq osq).keep q2
        have q4 := (Ext.regrown w0 dq osq).keep q4
        have a0 := (Ext.regrown w0 dq osq).keep a0
        have a1 := (Ext.regrown w0 dq osq).keep a1
        clear s0 s1 s6 s7 h1 h2 hd hd2 ho2 hk
        generalize grow (redrawn w0 dq) osq = w1 at *
        clear x0
        have hl := Lib.hid (node_any b p w1 q1)
        go_wp2_with fail
        refine hl.out.mono ?_
        rintro e w1' ⟨rfl, rfl⟩
        have s0 := cell_regrown q1
        have s1 := cell_regrown a0
        have s2 := cell_regrown a1
        go_wp2_with fail
        refine wp_region_quiet_below (by kernel_rfl) (by kernel_rfl) ?_
        repeat go_big_quiet_step ((with_reducible exact Calls.in_regrown (hfa.out _ (x1.trans (Ext.regrown _ _ _)))))
        refine wpQuiet_nil ?_
        intro _ hw'
        obtain ⟨⟨dq, osq⟩, hw''⟩ := hw'
        subst hw''
        have x2 := x1.trans (Ext.regrown w1 dq osq)
        have q1 := (Ext.regrown w1 dq osq).keep q1
        have q2 := (Ext.regrown w1 dq osq).keep q2
        have q4 := (Ext.regrown w1 dq osq).keep q4
        have a0 := (Ext.regrown w1 dq osq).keep a0
        have a1 := (Ext.regrown w1 dq osq).keep a1
        clear s0 s1 s2 hl hfa
        generalize grow (redrawn w1 dq) osq = w2 at *
        clear x1
        cases hBA : BA with
        | true =>
          go_wp2
          exact bodyPost_ret (v := .tuple #[Vi VA, .bool true]) (by simp [results, Try.results25, go_sem]) rfl ⟨by rw [(hL.out hBA).1, (hL.out hBA).2], x2⟩
        | false =>
          have s0 := cell_regrown q2
          have s1 := cell_regrown a0
          have s2 := cell_regrown a1
          go_wp2_with fail
          refine wp_region_quiet_below (by kernel_rfl) (by kernel_rfl) ?_
          repeat go_big_quiet_step ((with_reducible exact Calls.in_regrown (hfb.out _ (x2.trans (Ext.regrown _ _ _)))))
          refine wpQuiet_nil ?_
          intro _ hw'
          obtain ⟨⟨dq, osq⟩, hw''⟩ := hw'
          subst hw''
          have x3 := x2.trans (Ext.regrown w2 dq osq)
          have q1 := (Ext.regrown w2 dq osq).keep q1
          have q4 := (Ext.regrown w2 dq osq).keep q4
          clear s0 s1 s2 hfb
          generalize grow (redrawn w2 dq) osq = w3 at *
          clear x2
          cases hBB : BB with
          | true =>
            have hwz : IntKind.i64.wrap ((na : Int) + VB) = (na : Int) + VB := IntWalk.i64_in _ (by omega)
            go_wp2
            exact bodyPost_ret (v := .tuple #[Vi ((na : Int) + VB), .bool true]) (by simp [results, Try.results25, go_sem]) rfl ⟨by rw [(hR.out hBA hBB).1, (hR.out hBA hBB).2], x3⟩
          | false =>
            go_wp2
            exact bodyPost_ret (v := .tuple #[Vi 0, .bool false]) (by simp [results, Try.results25, go_sem]) rfl ⟨by rw [(hN.out hBA hBB).1, (hN.out hBA hBB).2], x3⟩

set_option maxRecDepth 100000 in
set_option maxHeartbeats 16000000 in
theorem at_any {F : Nat → Prop} : ∀ (t : Tr) (b : Nat) (w : World) (k r : Nat), AtP F w b t → cnt t ≤ 100000 → (shownE (ents t))[k]? = some r →
    Calls Try.prog 27 #[Vp b, Vi (k : Int)] w fun e w' => e = .returned (Vi (r : Int)) ∧ Ext w w' := by
  intro t
  induction t with
  | leaf l =>
    rintro b w k r ⟨_, ch, lf, rt, ⟨p0, p1, p2, p3, p4, p5, p6, p7⟩, rfl, rfl, A, cap, rfl, hcap, hE, _⟩ hb hr
    have hat := Lib.hid (atIn_any A l.length cap l k r w hE rfl hb hr)
    have hl := Lib.hid (leaf_any b w p1)
    clear hE hb hr hcap p2 p3 p4 p5 p6 p7
    go_enter Try.func27, Try.ntmps27
    go_wp2_with fail
    refine hl.out.mono ?_
    rintro e w1 ⟨rfl, rfl⟩
    go_wp2_with fail
    refine hat.out.mono ?_
    rintro e w1 ⟨rfl, rfl⟩
    go_wp2
    go_ret
    exact ⟨rfl, Ext.refl _⟩
  | node ta tb iha ihb =>
    rintro b w k r ⟨_, ch, lf, rt, ⟨p0, p1, p2, p3, p4, p5, p6, p7⟩, hPV⟩ hb hr
    obtain ⟨rfl, p, q, rfl, rfl, hA, hB⟩ := hPV.node
    rw [cnt_node] at hb
    rw [shown_node] at hr
    have hl := Lib.hid (node_any b p w p1)
    have ha := Lib.hid (fun W k r (hx : Ext w W) (h : (shownE (ents ta))[k]? = some r) => iha p W k r (hA.ext hx) (by omega) h)
    have hb' := Lib.hid (fun W k r (hx : Ext w W) (h : (shownE (ents tb))[k]? = some r) => ihb q W k r (hB.ext hx) (by omega) h)
    obtain ⟨_, cha, lfa, rta, ⟨_, _, _, _, l4, l5, _, _⟩, _⟩ := hA
    have hsw := shw_le ta
    have hsb := shw_le tb
    by_cases hk : k < shw ta
    · rw [if_pos hk] at hr
      have hc := Lib.hid (fun W (hx : Ext w W) => ha.out W k r hx hr)
      have hd : decide ((k : Int) < (shw ta : Int)) = true := by rw [decide_eq_true_eq]; omega
      clear ha hb' iha ihb hPV hB hr p3 p4 p5 p6 p7 p0
      go_enter Try.func27, Try.ntmps27
      go_wp2_with fail
      refine hl.out.mono ?_
      rintro e w1 ⟨rfl, rfl⟩
      go_wp2_with fail
      refine (hc.out _ (Ext.refl _)).mono ?_
      rintro e w2 ⟨rfl, x2⟩
      go_wp2
      go_ret
      exact ⟨rfl, x2⟩
    · rw [if_neg hk] at hr
      obtain ⟨r', hr', rfl⟩ : ∃ r', (shownE (ents tb))[k - shw ta]? = some r' ∧ cnt ta + r' = r := by
        cases h : (shownE (ents tb))[k - shw ta]? with
        | none => rw [h] at hr; cases hr
        | some r' => rw [h] at hr; exact ⟨r', rfl, by simpa using hr⟩
      have hlt : r' < cnt tb := by
        have := shown_lt (ents tb) 0 r' (List.mem_of_getElem? hr')
        unfold cnt
        omega
      have hkb : k - shw ta < 100000 := by
        have := (List.getElem?_eq_some_iff.1 hr').1
        have h2 := shown_len (ents tb) 0
        unfold shownE at this
        unfold cnt at hb
        omega
      have hc := Lib.hid (fun W (hx : Ext w W) => hb'.out W _ r' hx hr')
      have hd : decide ((k : Int) < (shw ta : Int)) = false := by rw [decide_eq_false_iff_not]; omega
      have hsub : IntKind.i64.wrap ((k : Int) - (shw ta : Int)) = ((k - shw ta : Nat) : Int) := by rw [show ((k : Int) - (shw ta : Int)) = ((k - shw ta : Nat) : Int) by omega]; exact IntWalk.i64_in _ (by omega)
      have hadd := Lib.hid (show IntKind.i64.wrap ((cnt ta : Int) + (r' : Int)) = ((cnt ta + r' : Nat) : Int) by rw [show ((cnt ta : Int) + (r' : Int)) = ((cnt ta + r' : Nat) : Int) by omega]; exact IntWalk.i64_in _ (by omega))
      have s1 := cell_regrown p1
      have s2 := cell_regrown p2
      have s4 := cell_regrown l4
      have s5 := cell_regrown l5
      clear ha hb' iha ihb hPV hB hr hr' p3 p4 p5 p6 p7 p0
      generalize k - shw ta = kk at *
      go_enter Try.func27, Try.ntmps27
      go_wp2_with fail
      refine hl.out.mono ?_
      rintro e w1 ⟨rfl, rfl⟩
      go_wp2_with fail
      refine wp_region_quiet_below (by kernel_rfl) (by kernel_rfl) ?_
      repeat go_big_quiet_step ((with_reducible exact Calls.in_regrown (hc.out _ (Ext.regrown _ _ _))))
      refine wpQuiet_nil ?_
      intro _ hw'
      obtain ⟨⟨dq, osq⟩, hw''⟩ := hw'
      subst hw''
      go_wp2
      go_ret
      exact ⟨ret_i64 (by omega), Ext.regrown _ _ _⟩

theorem drewN_add (w : World) (n m : Nat) : (w.drewN n).drewN m = w.drewN (n + m) := by
  unfold World.drewN
  simp [Nat.add_assoc]
/-- where the way down stands: the part at this block has the entry at this place -/
def EntRel (F : Nat → Prop) (x : En) (w : World) (g : Nat) (v i : Value) (W : World) : Prop := ∃ (t : Tr) (b q n : Nat), v = Vp b ∧ i = Vi q ∧ AtP F w b t ∧ cnt t ≤ 100000 ∧ (ents t)[q]? = some x ∧ htT t ≤ g ∧
  W = (w.alloc (.cells #[.int .u32 0, .int .u32 0, .int .i32 0, .bool false] 38)).drewN n
set_option maxRecDepth 100000 in
set_option maxHeartbeats 16000000 in
theorem entry_any {F : Nat → Prop} (t : Tr) (b : Nat) (w : World) (q : Nat) (x : En) (hA : AtP F w b t) (hb : cnt t ≤ 100000) (hx : (ents t)[q]? = some x) :
    Calls Try.prog 26 #[Vp b, Vi (q : Int)] w fun e w' => e = .returned (env x) ∧ Ext w w' := by
  have h0 : EntRel F x w (htT t) (Vp b) (Vi q) (w.alloc (.cells #[.int .u32 0, .int .u32 0, .int .i32 0, .bool false] 38)) := ⟨t, b, q, 0, rfl, rfl, hA, hb, hx, Nat.le_refl _, rfl⟩
  generalize htT t = g0 at h0
  clear hA hb hx t
  go_enter Try.func26, Try.ntmps26
  go_wp2_with fail
  go_loopg [0, 1] g0 (EntRel F x w)
  case atStart => exact h0
  case round =>
    clear h0
    obtain ⟨t, b, q, n, rfl, rfl, hA, hb, hx, hg, rfl⟩ := hrel
    have hx0 : Ext w ((w.alloc (.cells #[.int .u32 0, .int .u32 0, .int .i32 0, .bool false] 38)).drewN n) := ((Ext.refl _).alloc _).drewN _
    cases t with
    | leaf l =>
      obtain ⟨_, ch, lf, rt, ⟨p0, p1, p2, p3, p4, p5, p6, p7⟩, rfl, rfl, A, cap, rfl, hcap, hE, _⟩ := hA
      have hx : l[q]? = some x := hx
      have hq : q < l.length := (List.getElem?_eq_some_iff.1 hx).1
      have hb : l.length ≤ 100000 := hb
      obtain ⟨bb, o, x', rfl, hp, d⟩ := (hE.ext hx0).at (k := q) hq
      rw [hx] at hp
      injection hp with hp
      subst hp
      obtain ⟨c0, c1, c2, c3⟩ := d
      have hi1 : (0 : Int) ≤ (q : Int) := by omega
      have hi2 : (q : Int) < (l.length : Int) := by omega
      have p0 := hx0.keep p0
      have p1 := hx0.keep p1
      have hl := Lib.hid (leaf_any b _ p1)
      clear p2 p3 p4 p5 p6 p7 hE
      go_wp2_with fail
      refine hl.out.mono ?_
      rintro e w1 ⟨rfl, rfl⟩
      go_wp2
      exact bodyPost_ret (v := env x) (by simp [results, Try.results26, go_sem]) rfl ⟨rfl, (((hx0.setCell (by show w.heap.size ≤ w.heap.size; omega) _).setCell (by show w.heap.size ≤ w.heap.size; omega) _).setCell (by show w.heap.size ≤ w.heap.size; omega) _).setCell (by show w.heap.size ≤ w.heap.size; omega) _⟩
    | node ta tb =>
      obtain ⟨_, ch, lf, rt, ⟨p0, p1, p2, p3, p4, p5, p6, p7⟩, hPV⟩ := hA
      obtain ⟨rfl, pl, pr, rfl, rfl, hA, hB⟩ := hPV.node
      rw [cnt_node] at hb
      have hA' := Lib.hid hA
      have hB' := Lib.hid hB
      obtain ⟨_, cha, lfa, rta, ⟨_, _, _, _, l4, _, _, _⟩, _⟩ := hA
      have p1 := hx0.keep p1
      have p2 := hx0.keep p2
      have l4 := hx0.keep l4
      have hl := Lib.hid (node_any b pl _ p1)
      have hgm : max (htT ta) (htT tb) + 1 ≤ gk := hg
      clear p0 p3 p4 p5 p6 p7 hPV hB hg
      by_cases hq : q < cnt ta
      · have hd : decide ((q : Int) < (cnt ta : Int)) = true := by rw [decide_eq_true_eq]; omega
        have hxl := Lib.hid (show (ents ta)[q]? = some x by rw [← hx]; exact (List.getElem?_append_left hq).symm)
        clear hx
        go_wp2_with fail
        refine hl.out.mono ?_
        rintro e w1 ⟨rfl, rfl⟩
        go_wp2
        go_roundg (htT ta)
        case measure => omega
        case rel => exact ⟨ta, pl, q, n, rfl, rfl, hA'.out, by omega, hxl.out, Nat.le_refl _, rfl⟩
      · have hd : decide ((q : Int) < (cnt ta : Int)) = false := by rw [decide_eq_false_iff_not]; omega
        have hxr := Lib.hid (show (ents tb)[q - cnt ta]? = some x by rw [← hx]; exact (List.getElem?_append_right (by unfold cnt at hq; omega)).symm)
        have hqb : q - cnt ta < cnt tb := (List.getElem?_eq_some_iff.1 hxr.out).1
        have hsub : IntKind.i64.wrap ((q : Int) - (cnt ta : Int)) = ((q - cnt ta : Nat) : Int) := by rw [show ((q : Int) - (cnt ta : Int)) = ((q - cnt ta : Nat) : Int) by omega]; exact IntWalk.i64_in _ (by omega)
        clear hx
        go_wp2_with fail
        refine hl.out.mono ?_
        rintro e w1 ⟨rfl, rfl⟩
        go_wp2
        go_quiet (fail)
        go_wp2
        go_roundg (htT tb)
        case measure => omega
        case rel => exact ⟨tb, pr, q - cnt ta, _, rfl, by go_num, hB'.out, by omega, hxr.out, Nat.le_refl _, drewN_add _ _ _⟩

end Go.Proofs.Ytanknhalgoheeaa
