/-
  Contract of the law's Rising; no claim stands here.
-/
import Derived.Test.YtjhhohoeeacckaaDoorNTog
import Derived.Test.YtjhhohoeeacckaaDoorNBack
namespace Go.Proofs.YtjhhohoeeacckaaDoor
open Go.ChangeShapes Go.WideShapes Go.ChangeAt Go.RowKit Go.Sort
set_option linter.unusedVariables false
attribute [local go_sem] World.cell?_alloc_some

def befI (x y : It) : Bool := befId x.c x.k y.c y.k
def fitI (x : It) : Bool := decide (x.c ≠ 0 ∧ x.k ≤ 4294967294) && okB x.ch
def behindI (out : List It) (x : It) : Bool := match out.getLast? with
  | none => true
  | some y => befI y x
def risStep (out : List It) (x : It) : List It := if fitI x && behindI out x then out ++ [x] else out
/-- items with rising Ids that may be -/
def risOf (l : List It) : List It := l.foldl risStep []
theorem ris_take {l : List It} {k : Nat} {x : It} (h : l[k]? = some x) : risOf (l.take (k + 1)) = risStep (risOf (l.take k)) x := by
  rw [List.take_add_one, h]
  simp [risOf]
theorem ris_len : ∀ (l o : List It), (l.foldl risStep o).length ≤ o.length + l.length
  | [], o => by simp
  | x :: l, o => by
    have := ris_len l (risStep o x)
    have h2 : (risStep o x).length ≤ o.length + 1 := by unfold risStep; split <;> simp
    simp only [List.foldl_cons, List.length_cons]
    omega
theorem ris_all : ∀ (l o : List It) (p : It → Prop), (∀ x ∈ o, p x) → (∀ x ∈ l, fitI x = true → p x) → ∀ x ∈ l.foldl risStep o, p x
  | [], o, p, ho, _ => ho
  | y :: l, o, p, ho, hl => by
    refine ris_all l (risStep o y) p ?_ (fun x hx => hl x (List.mem_cons_of_mem _ hx))
    intro x hx
    unfold risStep at hx
    split at hx
    · rename_i h
      rcases List.mem_append.1 hx with h1 | h1
      · exact ho x h1
      · rw [List.mem_singleton] at h1
        subst h1
        exact hl x (List.mem_cons_self ..) (by rw [Bool.and_eq_true] at h; exact h.1)
    · exact ho x hx
theorem ris_wf {l : List It} (h : wfIs l) : wfIs (risOf l) := ris_all l [] wfI (by simp) (fun x hx _ => h x hx)
theorem ris_ok (l : List It) : ∀ x ∈ risOf l, okI x := by
  refine ris_all l [] okI (by simp) (fun x _ hf => ?_)
  unfold fitI okB at hf
  rw [Bool.and_eq_true, decide_eq_true_eq, decide_eq_true_eq] at hf
  exact ⟨hf.1.1, hf.1.2, hf.2⟩
theorem ris_le (l : List It) : (risOf l).length ≤ l.length := by have := ris_len l []; simpa [risOf] using this
theorem last_at {o : List It} {y : It} (h : o[o.length - 1]? = some y) (x : It) : behindI o x = befI y x := by
  unfold behindI
  rw [List.getLast?_eq_getElem?, h]
theorem step_yes {o : List It} {x : It} (h : fitI x = true) (h1 : behindI o x = true) : risStep o x = o ++ [x] := by unfold risStep; rw [h, h1]; rfl
theorem step_no {o : List It} {x : It} (h : fitI x = false ∨ behindI o x = false) : risStep o x = o := by
  unfold risStep
  rcases h with h | h
  · rw [h]; rfl
  · rw [h, Bool.and_false]; rfl

set_option maxRecDepth 100000 in
set_option maxHeartbeats 4000000 in
theorem rising_any (A : Option Addr) (n cap : Nat) (l : List It) (w : World) (hv : ItS w A l) (hn : l.length = n) (hb : n ≤ 10000) :
    Calls Tryd.prog 8 #[.slice A n cap] w (RetI w (risOf l)) := by
  replace hn := Lib.hid hn
  replace hv := Lib.hid hv
  go_enter Tryd.func8, Tryd.ntmps8
  go_wp2
  go_loopw [3, 4] (fun v i W => ∃ (k : Nat), k ≤ n ∧ i = Vi k ∧ Hid (OwnI w W v (risOf (l.take k))) ∧ Ext w W) (fun _ i _ => n - (intOf i).toNat)
  case atStart => exact ⟨0, Nat.zero_le _, rfl, Lib.hid (OwnI.nil _ _), Ext.refl _⟩
  case round =>
    obtain ⟨k, hk, rfl, ho, hx⟩ := hrel
    by_cases hlt : k < n
    · obtain ⟨b, o, x, rfl, hp, d⟩ := hv.out.at (k := k) (by rw [hn.out]; exact hlt)
      have dx := Lib.hid (d.ext hx)
      obtain ⟨c0, c1, c2, c3, c4, c5, c6⟩ := dx.out
      have hst := Lib.hid (ris_take hp)
      have hlen : (risOf (l.take k)).length ≤ k := Nat.le_trans (ris_le _) (by rw [List.length_take]; omega)
      clear hp d
      generalize risOf (l.take k) = out at *
      have hval := Lib.hid (fun W => valid_any x.ch W)
      have hg : decide ((k : Int) < (n : Int)) = true := by rw [decide_eq_true_eq]; omega
      cases hok : okB x.ch with
      | false =>
        have hs := Lib.hid (show risOf (l.take (k + 1)) = out by rw [hst.out]; exact step_no (.inl (by unfold fitI; rw [hok, Bool.and_false])))
        rw [hok] at hval
        clear hok hst
        go_wp2_with fail
        refine (hval.out _).mono ?_
        rintro e w1 ⟨rfl, rfl⟩
        go_wp2
        all_goals go_roundw
        all_goals first
          | exact ⟨k + 1, by omega, by go_num, Lib.hid (hs.out ▸ ho.out), hx⟩
          | (simp [intOf]; omega)
      | true =>
        rw [hok] at hval
        by_cases hf : x.c ≠ 0 ∧ x.k ≤ 4294967294
        · have hfit : fitI x = true := by unfold fitI; rw [hok, Bool.and_true]; exact decide_eq_true hf
          have g1 : (x.c == 0) = false := by simpa using hf.1
          have g2 : decide (4294967294 < x.k) = false := by rw [decide_eq_false_iff_not]; omega
          obtain ⟨A', c', hv', hcc, hI⟩ := ho.out.open
          obtain ⟨m, hm⟩ : ∃ m, out.length = m := ⟨_, rfl⟩
          rw [hm] at hv' hcc
          subst hv'
          by_cases h0 : m = 0
          · have hs := Lib.hid (show risOf (l.take (k + 1)) = out ++ [x] by
              rw [hst.out]
              exact step_yes hfit (by rw [List.eq_nil_of_length_eq_zero (hm.trans h0)]; rfl))
            subst h0
            clear hok hst hf hfit hI
            go_wp2_with fail
            refine (hval.out _).mono ?_
            rintro e w1 ⟨rfl, rfl⟩
            go_wp2_with (first
              | (at_builtin
                 refine wpList_append_I (w0 := w) rfl (.tmp 57) (.tmp 62) rfl _ out rfl (ho.out.ext ((Ext.refl _).alloc _)) (hx.alloc _) _ 1 1 [x] rfl rfl (ItS.new _ x) (by simp only [List.length_cons, List.length_nil]; omega) ?_
                 intro v3 w3 o3 x3 g3 b3))
            go_roundw
            case rel => exact ⟨k + 1, by omega, by go_num, Lib.hid (hs.out ▸ o3), x3⟩
            case measure => simp [intOf]; omega
          · obtain ⟨b', o', y, rfl, hq, d'⟩ := hI.at (k := m - 1) (by omega)
            rw [← hm] at hq
            have hbh := last_at hq x
            have g3 : decide ((0 : Int) < (m : Int)) = true := by rw [decide_eq_true_eq]; omega
            have hsub : IntKind.i64.wrap ((m : Int) - 1) = ((m - 1 : Nat) : Int) := by rw [show ((m : Int) - 1) = ((m - 1 : Nat) : Int) by omega]; exact IntWalk.i64_in _ (by omega)
            have hi1 : (0 : Int) ≤ ((m - 1 : Nat) : Int) := by omega
            have hi2 : ((m - 1 : Nat) : Int) < (m : Int) := by omega
            have hi3 : (0 : Int) ≤ (k : Int) := by omega
            have hi4 : (k : Int) < (n : Int) := by omega
            obtain ⟨r0, r1, r2, r3, r4, r5, r6⟩ := d'.regrown
            obtain ⟨s0, s1, s2, s3, s4, s5, s6⟩ := dx.out.regrown
            have hcall := Lib.hid (fun W => before_any y.c y.k x.c x.k W)
            cases hbf : befI y x with
            | true =>
              have hs := Lib.hid (show risOf (l.take (k + 1)) = out ++ [x] by rw [hst.out]; exact step_yes hfit (by rw [hbh, hbf]))
              unfold befI at hbf
              rw [hbf] at hcall
              clear hok hst hf hfit h0 hI hq d' hbh hbf dx hm
              go_wp2_with fail
              refine (hval.out _).mono ?_
              rintro e w1 ⟨rfl, rfl⟩
              go_wp2_with fail
              refine wp_region_quiet_below (by kernel_rfl) (by kernel_rfl) ?_
              repeat go_big_quiet_step ((with_reducible exact Calls.in_regrown (hcall.out _)))
              refine wpQuiet_nil ?_
              intro _ hw'
              obtain ⟨⟨dq, osq⟩, hw''⟩ := hw'
              subst hw''
              have k0 := s0 dq osq
              have k1 := s1 dq osq
              have k2 := s2 dq osq
              have k3 := s3 dq osq
              have k4 := s4 dq osq
              have k5 := s5 dq osq
              have k6 := s6 dq osq
              have hxq := hx.trans (Ext.regrown wr dq osq)
              have oq := Lib.hid (ho.out.ext (Ext.regrown wr dq osq))
              clear r0 r1 r2 r3 r4 r5 r6 s0 s1 s2 s3 s4 s5 s6 c0 c1 c2 c3 c4 c5 c6 hx
              generalize grow (redrawn wr dq) osq = w2 at *
              go_wp2_with (first
                | (at_builtin
                   refine wpList_append_I (w0 := w) rfl (.tmp 57) (.tmp 62) rfl _ out rfl (oq.out.ext ((Ext.refl _).alloc _)) (hxq.alloc _) _ 1 1 [x] rfl rfl (ItS.new _ x) (by simp only [List.length_cons, List.length_nil]; omega) ?_
                   intro v3 w3 o3 x3 g3 b3))
              go_roundw
              case rel => exact ⟨k + 1, by omega, by go_num, Lib.hid (hs.out ▸ o3), x3⟩
              case measure => simp [intOf]; omega
            | false =>
              have hs := Lib.hid (show risOf (l.take (k + 1)) = out by rw [hst.out]; exact step_no (.inr (by rw [hbh, hbf])))
              unfold befI at hbf
              rw [hbf] at hcall
              clear hok hst hf hfit h0 hI hq d' hbh hbf dx hm
              go_wp2_with fail
              refine (hval.out _).mono ?_
              rintro e w1 ⟨rfl, rfl⟩
              go_wp2_with fail
              refine wp_region_quiet_below (by kernel_rfl) (by kernel_rfl) ?_
              repeat go_big_quiet_step ((with_reducible exact Calls.in_regrown (hcall.out _)))
              refine wpQuiet_nil ?_
              intro _ hw'
              obtain ⟨⟨dq, osq⟩, hw''⟩ := hw'
              subst hw''
              go_wp2
              go_roundw
              case rel => exact ⟨k + 1, by omega, by go_num, Lib.hid (hs.out ▸ ho.out.ext (Ext.regrown wr dq osq)), hx.trans (Ext.regrown wr dq osq)⟩
              case measure => simp [intOf]; omega
        · have hs := Lib.hid (show risOf (l.take (k + 1)) = out by rw [hst.out]; exact step_no (.inl (by unfold fitI; rw [decide_eq_false hf, Bool.false_and])))
          clear hok hst
          by_cases h1 : x.c = 0
          · rw [h1] at c0
            clear hf
            go_wp2_with fail
            refine (hval.out _).mono ?_
            rintro e w1 ⟨rfl, rfl⟩
            go_wp2
            go_roundw
            case rel => exact ⟨k + 1, by omega, by go_num, Lib.hid (hs.out ▸ ho.out), hx⟩
            case measure => simp [intOf]; omega
          · have g1 : (x.c == 0) = false := by simpa using h1
            have g2 : decide (4294967294 < x.k) = true := by rw [decide_eq_true_eq]; omega
            clear hf h1
            go_wp2_with fail
            refine (hval.out _).mono ?_
            rintro e w1 ⟨rfl, rfl⟩
            go_wp2
            go_roundw
            case rel => exact ⟨k + 1, by omega, by go_num, Lib.hid (hs.out ▸ ho.out), hx⟩
            case measure => simp [intOf]; omega
    · have hd := Lib.hid (show l.take k = l from List.take_of_length_le (by rw [hn.out]; omega))
      rw [hd.out] at ho
      go_wp2
      go_ret
      exact ⟨_, rfl, ho.out, hx⟩

end Go.Proofs.YtjhhohoeeacckaaDoor
