/-
  TreeHangs' walk; no claim stands here.
-/
import Derived.Deep.DeepCutAuto
import Derived.Test.YtnocdfmmhnnbeaaXS
import Derived.Test.YtnocdfmmhnnbeaaXT
import Derived.Test.YtnocdfmmhnnbeaaTBtL
namespace Go.Proofs.Ytnocdfmmhnnbeaa
open Go.ChangeShapes Go.WideShapes Go.ChangeAt Go.RowKit Go.Sort
set_option linter.unusedVariables false
set_option linter.unusedSimpArgs false
attribute [local go_sem] World.cell?_alloc_some

/-- what the slots hold -/
def t8hgA (Ao : Option Addr) (ol co br ort rl cr t : Nat) (other : List It) (x : It) (s0 : World) : SoftTab := [(68, fun z9 W => ∃ q, z9 = .slice (some ⟨q, 0, none⟩) 0 0 ∧ s0.heap.size ≤ q ∧ W.heap[q]? = some (.cells #[] 27 (0, 0))),
  (69, fun z9 W => z9 = .slice Ao ol co),
  (70, fun z9 W => ∃ q : Value, z9 = q ∧ OwnI s0 W q other),
  (71, fun z9 W => z9 = .slice (some ⟨br, ort, none⟩) rl cr),
  (72, fun z9 W => z9 = Vi (t : Int)),
  (73, fun z9 W => z9 = .pointer (some ⟨br, ort + t * 7, none⟩)),
  (74, fun z9 W => z9 = itv x),
  (75, fun z9 W => ∃ q, z9 = .slice (some ⟨q, 0, none⟩) 1 1 ∧ BoxI W q x)]
theorem t8hgA_mono (Ao : Option Addr) (ol co br ort rl cr t : Nat) (other : List It) (x : It) (s0 : World) (Rel : World → World → Prop) (hR : ∀ W W', Rel W W' → Ext W W') : SoftMonoR Rel (t8hgA Ao ol co br ort rl cr t other x s0) := by
  intro p hp v W W' h hx
  simp only [t8hgA, List.mem_cons, List.not_mem_nil, or_false] at hp
  rcases hp with rfl | rfl | rfl | rfl | rfl | rfl | rfl | rfl
  all_goals first
    | exact h
    | (obtain ⟨q, h1, h2, h3⟩ := h
       exact ⟨q, h1, h2, by rw [RowKit.Below.block (hR _ _ hx) q (Array.getElem?_eq_some_iff.1 h3).1]; exact h3⟩)
    | (obtain ⟨q, h1, h2⟩ := h
       exact ⟨q, h1, h2.ext (hR _ _ hx)⟩)
/-- what the slots hold -/
def t8hgB (br ort rl cr t : Nat) (rest : List It) (s0 : World) : SoftTab := [(80, fun z9 W => ∃ q, z9 = .slice (some ⟨q, 0, none⟩) 0 0 ∧ s0.heap.size ≤ q ∧ W.heap[q]? = some (.cells #[] 27 (0, 0))),
  (81, fun z9 W => z9 = .slice (some ⟨br, ort, none⟩) rl cr),
  (82, fun z9 W => z9 = Vi (t : Int)),
  (83, fun z9 W => z9 = .slice (some ⟨br, ort, none⟩) t cr),
  (84, fun z9 W => ∃ q : Value, z9 = q ∧ OwnI s0 W q (rest.take t)),
  (85, fun z9 W => z9 = .slice (some ⟨br, ort, none⟩) rl cr),
  (86, fun z9 W => z9 = Vi (t : Int)),
  (87, fun z9 W => z9 = Vi ((t : Int) + 1)),
  (88, fun z9 W => z9 = .slice (cutA (some ⟨br, ort, none⟩) cr (t + 1) 7) (rl - (t + 1)) (cr - (t + 1)))]
theorem t8hgB_mono (br ort rl cr t : Nat) (rest : List It) (s0 : World) (Rel : World → World → Prop) (hR : ∀ W W', Rel W W' → Ext W W') : SoftMonoR Rel (t8hgB br ort rl cr t rest s0) := by
  intro p hp v W W' h hx
  simp only [t8hgB, List.mem_cons, List.not_mem_nil, or_false] at hp
  rcases hp with rfl | rfl | rfl | rfl | rfl | rfl | rfl | rfl | rfl
  all_goals first
    | exact h
    | (obtain ⟨q, h1, h2, h3⟩ := h
       exact ⟨q, h1, h2, by rw [RowKit.Below.block (hR _ _ hx) q (Array.getElem?_eq_some_iff.1 h3).1]; exact h3⟩)
    | (obtain ⟨q, h1, h2⟩ := h
       exact ⟨q, h1, h2.ext (hR _ _ hx)⟩)

theorem OwnI.emptyH {w W : World} (hx : Ext w W) : OwnI w (W.alloc (.cells #[] 27)) (.slice (some ⟨W.heap.size, 0, none⟩) 0 0) [] :=
  ⟨rfl, .inr ⟨W.heap.size, 0, #[], rfl, hx.size, heap_alloc_new W _, Nat.le_refl _, by unfold maxLen; omega, rfl, rfl⟩⟩
theorem come_round {p rl j : Nat} (hp : p < rl) (hj : j < rl) : ∃ i, i < rl ∧ (p + i) % rl = j := by
  rcases Nat.lt_or_ge j p with h | h
  · refine ⟨j + rl - p, by omega, ?_⟩
    rw [show p + (j + rl - p) = j + rl by omega, Nat.add_mod_right, Nat.mod_eq_of_lt hj]
  · exact ⟨j - p, by omega, by rw [show p + (j - p) = j by omega, Nat.mod_eq_of_lt hj]⟩
/-- what has come, and the rest -/
def HgR (w3 : World) (m : List It) (gk : Nat) (vr vo vi : Value) (W : World) : Prop :=
  ∃ Ar cr Ao co rest other, vr = .slice Ar rest.length cr ∧ vo = .slice Ao other.length co ∧ vi = Vi (other.length : Int) ∧ rest.length ≤ cr ∧ other.length ≤ co ∧ ItS W Ar rest ∧ ItS W Ao other ∧ Parts m other rest ∧ knownI other = true ∧ rest.length ≤ gk ∧ Ext w3 W
/-- none of those that were tried can come -/
def HiR (w5 : World) (p rl : Nat) (rest other : List It) (vr0 vo0 vr vo vk : Value) (W : World) : Prop :=
  vr = vr0 ∧ vo = vo0 ∧ ∃ q, q ≤ rl ∧ vk = Vi (q : Int) ∧ (∀ i, i < q → ∀ z, rest[(p + i) % rl]? = some z → knownX other z = false) ∧ Ext w5 W
theorem take_len_lt {α : Type} {l : List α} {n t : Nat} (h : l.length = n) (ht : t + 1 ≤ n) : (l.take t).length = t := by rw [List.length_take, h]; omega
theorem filter_step (few : List It) (O : List I2) {j : Nat} {a : I2} (h : O[j]? = some a) : (O.take (j + 1)).filter (hasI few) = (O.take j).filter (hasI few) ++ if hasI few a then [a] else [] := by
  rw [take_get h, List.filter_append]
  cases h2 : hasI few a <;> simp [h2]

set_option maxRecDepth 100000 in
set_option maxHeartbeats 32000000 in
theorem treeHangs_walk (A Ap : Option Addr) (n cap np cp : Nat) (l : List It) (picks : List Int) (z : Int) (w : World) (hv : ItS w A l) (hn : l.length = n) (hp : ZS w Ap picks) (hpn : picks.length = np) :
    Calls Try.prog 4 #[.slice A n cap, .slice Ap np cp, Vi z] w fun e w' => e = .returned (.bool true) ∧ Ext w w' := by
  have hc2 := Lib.hid (fun (W : World) (hW : Ext w W) (hb : n ≤ 40) => knownL_any A n cap l W (hv.ext hW) hn (by omega))
  have hml : (knL l).length ≤ n := hn ▸ knL_len l
  have hkm := Lib.hid (knL_known l)
  replace hp := Lib.hid hp
  replace hpn := Lib.hid hpn
  clear hn hv
  go_enter Try.func4, Try.ntmps4
  go_wp2_with fail
  refine (up8_any _).mono ?_
  rintro e w1 ⟨rfl, xw1⟩
  by_cases h40 : 40 < n
  · go_wp2
    go_ret
    exact ⟨rfl, xw1⟩
  · go_wp2_with fail
    refine (hc2.out _ xw1 (by omega)).mono ?_
    rintro e w2 ⟨v2, rfl, o2, x2⟩
    obtain ⟨Am, cm, rfl, hkc, hM2⟩ := o2.open
    have xw2 := xw1.trans x2
    clear xw1 x2 o2 hc2
    have hIs := Lib.hid (ordW_is hkm.out)
    have hOl := ord_len hkm.out hIs.out
    have hord0 := Lib.hid (fun (c k : Nat) (hk : (knL l).length = k) (hkc : k ≤ c) (hb : k ≤ 5026338869800) => order_tr Am k c (knL l) w2 hM2 hkm.out hk hkc hb)
    generalize knL l = m at *
    generalize ordW m = O at *
    obtain ⟨k, hk⟩ : ∃ k, m.length = k := ⟨_, rfl⟩
    rw [hk] at hml hkc hOl ⊢
    have hk40 : k ≤ 40 := by omega
    replace hk := Lib.hid hk
    replace hM2 := Lib.hid hM2
    go_wp2_with fail
    refine (hord0.out cm k hk.out hkc (by omega)).mono ?_
    rintro e w3 ⟨v3, rfl, o3, x3⟩
    obtain ⟨A4, c4, rfl, hkc4, hO3⟩ := o3.open
    rw [hOl] at hkc4 ⊢
    have xw3 := Lib.hid (xw2.trans x3)
    have hM3 := Lib.hid (hM2.out.ext x3)
    replace hO3 := Lib.hid hO3
    replace hOl := Lib.hid hOl
    have hp3 := Lib.hid (hp.out.ext xw3.out)
    clear x3 o3 xw2 hM2 hord0 hp
    have hkk2 : ((k : Int) != (k : Int)) = false := by simp
    have hstart := Lib.hid (Parts.start hkm.out)
    go_wp2_with (first
      | (at_builtin
         refine wpList_append_IB (w0 := w3) rfl (.tmp 37) (.tmp 38) rfl _ [] rfl (OwnI.emptyH (Ext.refl w3)) ((Ext.refl w3).alloc _) Am k cm m rfl hk.out (hM3.out.ext ((Ext.refl w3).alloc _)) (by rw [hk.out, List.length_nil]; omega) ?_
         intro v5 w5 o5 x5 g5 e5
         obtain ⟨A5, c5, rfl, hc5, hI5⟩ := o5.open
         have hR0 := Lib.hid (show HgR w3 m k (.slice A5 ([] ++ m).length c5) (.slice none 0 0) (Vi 0) w5 from ⟨A5, c5, none, 0, m, [], rfl, rfl, rfl, hc5, Nat.le_refl _, hI5, Row.nil _ _, hstart.out, rfl, by rw [hk.out]; exact Nat.le_refl _, x5⟩)
         clear hc5 hI5 o5 x5 g5 e5)
      | fail)
    clear hstart
    go_loopg [10, 11, 12, 13, 14, 15, 16] k (fun gk vr vo vi _ _ _ _ W => HgR w3 m gk vr vo vi W)
    case atStart => exact hR0.out
    case round =>
      clear hR0
      obtain ⟨Ar, cr, Ao, co, rest, other, rfl, rfl, rfl, hcr, hco, hRs, hOt, hpa, hko, hgk, hx⟩ := hrel
      obtain ⟨rl, hrl⟩ : ∃ rl, rest.length = rl := ⟨_, rfl⟩
      obtain ⟨ol, hol⟩ : ∃ ol, other.length = ol := ⟨_, rfl⟩
      rw [hrl] at hcr hgk ⊢
      rw [hol] at hco ⊢
      have hsum := Lib.hid (show ol + rl = k by have := hpa.len; rw [hrl, hol, hk.out] at this; exact this)
      have hol40 : ol ≤ 40 := by have := hsum.out; omega
      have hrl40 : rl ≤ 40 := by have := hsum.out; omega
      have hbo := Lib.hid (show ol ≤ 5026338869833 by omega)
      replace hrl := Lib.hid hrl
      replace hol := Lib.hid hol
      replace hRs := Lib.hid hRs
      replace hOt := Lib.hid hOt
      replace hpa := Lib.hid hpa
      replace hko := Lib.hid hko
      replace hx := Lib.hid hx
      by_cases hr0 : 0 < rl
      · obtain ⟨br, ort, hAr⟩ : ∃ b o, Ar = some ⟨b, o, none⟩ := by
          obtain ⟨b, o, x, e, _⟩ := hRs.out.at (k := 0) (by rw [hrl.out]; exact hr0)
          exact ⟨b, o, e⟩
        subst hAr
        have hr0' : (0 : Int) < (rl : Int) := by omega
        have hd0 : decide (0 < rl) = true := decide_eq_true hr0
        have hx0 := Lib.hid (Ext.refl wr)
        go_upto_if 48 with fail
        go_cut [13] (fun s wx => ∃ p : Nat, p < rl ∧ s = Vi (p : Int) ∧ Hid (Ext wr wx))
        case first =>
          by_cases hlp : ol < np
          · have hdl : decide (ol < np) = true := decide_eq_true hlp
            obtain ⟨zp, hzp⟩ : ∃ zp, picks[ol]? = some zp := ⟨picks[ol]'(by rw [hpn.out]; exact hlp), List.getElem?_eq_getElem _⟩
            obtain ⟨bp, op, hAp, hcp⟩ := (hp3.out.ext hx.out).at hzp
            subst hAp
            have hl1 : (0 : Int) ≤ (ol : Int) := by omega
            have hl2 : (ol : Int) < (np : Int) := by omega
            have hpk : ∀ W, Calls Try.prog 15 #[Vi zp, Vi (rl : Int)] W fun e w' => (∃ r : Nat, r < rl ∧ e = .returned (Vi (r : Int))) ∧ W = w' := fun W => pick8_any zp rl W hr0 (by omega)
            clear hzp
            rw [hdl]
            go_wp2_with fail
            refine (hpk _).mono ?_
            rintro e w6 ⟨⟨r, hr, rfl⟩, rfl⟩
            clear hpk
            go_wp2_with fail
            go_meet
            exact ⟨r, hr, rfl, hx0⟩
          · have hdl : decide (ol < np) = false := decide_eq_false hlp
            rw [hdl]
            go_wp2_with fail
            go_meet
            exact ⟨0, hr0, rfl, hx0⟩
        case rest =>
          obtain ⟨p, hpr, rfl, xc⟩ := hcut
          replace hRs := Lib.hid (hRs.out.ext xc.out)
          replace hOt := Lib.hid (hOt.out.ext xc.out)
          replace hx := Lib.hid (hx.out.trans xc.out)
          clear xc hx0
          go_wp2
          go_loopw [10, 11, 14, 15, 16] (fun vr vo vk _ _ W => HiR wc p rl rest other (.slice (some ⟨br, ort, none⟩) rl cr) (.slice Ao ol co) vr vo vk W) (fun _ _ vk _ _ _ => rl - (intOf vk).toNat)
          case atStart => exact ⟨rfl, rfl, 0, Nat.zero_le _, rfl, fun i hi => absurd hi (Nat.not_lt_zero _), Ext.refl _⟩
          case round =>
            obtain ⟨rfl, rfl, q, hq, rfl, hnone, xq⟩ := hrel
            by_cases hql : q < rl
            · obtain ⟨t, ht⟩ : ∃ t, (p + q) % rl = t := ⟨_, rfl⟩
              have htl : t < rl := by rw [← ht]; exact Nat.mod_lt _ hr0
              have hem := Lib.hid (show ((p : Int) + (q : Int)) % (rl : Int) = (t : Int) by rw [← ht]; rfl)
              have hdq : decide (q < rl) = true := decide_eq_true hql
              have hlq : (q : Int) < (rl : Int) := by omega
              replace hRs := Lib.hid (hRs.out.ext xq)
              replace hOt := Lib.hid (hOt.out.ext xq)
              replace hx := Lib.hid (hx.out.trans xq)
              obtain ⟨b', o', x, hA, hxt, dx⟩ := hRs.out.at (k := t) (by rw [hrl.out]; exact htl)
              injection hA with hA
              injection hA with hA1 hA2 hA3
              subst hA1
              subst hA2
              obtain ⟨d0, d1, d2, d3, d4, d5, d6⟩ := dx
              have ht1 : (0 : Int) ≤ (t : Int) := by omega
              have ht2 : (t : Int) < (rl : Int) := by omega
              have hbt := Lib.hid (show t ≤ 5026338869833 by omega)
              have hf1 := Lib.hid (show t + (rl - (t + 1)) ≤ 5026338869833 by omega)
              have hf2 := Lib.hid (show t + (rl - (t + 1)) = rl - 1 by omega)
              have hf3 := Lib.hid (show rl - 1 < gk by omega)
              have hf4 := Lib.hid (show t + 1 ≤ rl by omega)
              have hf5 := Lib.hid (show t ≤ cr by omega)
              have hf6 := Lib.hid (show ol + (0 + 1) ≤ 5026338869833 by omega)
              have hf7 := Lib.hid (show ol + 1 ≤ 1000000000000000 by omega)
              have hf8 := Lib.hid (show wrap64 ((t : Int) + 1) = (t : Int) + 1 from w64_in (by omega) (by omega))
              have hf10 := Lib.hid (show IntKind.i64.wrap ((t : Int) + 1) = (t : Int) + 1 from IntWalk.i64_in _ (by omega))
              have hf9 := Lib.hid (show wrap64 ((ol : Int) + 1) = (ol : Int) + 1 from w64_in (by omega) (by omega))
              replace hnone := Lib.hid hnone
              replace hxt := Lib.hid hxt
              replace ht := Lib.hid ht
              replace xq := Lib.hid xq
              go_wp2_with fail
              rw [hem.out]
              refine wp_soft_frame Ext 8 (t8hgA Ao ol co br ort rl cr t other x wr) (by kernel_rfl) (by kernel_rfl) (fun _ _ _ => Ext.trans) ((Ext.refl _).drew) rfl (by show List.Nodup [68, 69, 70, 71, 72, 73, 74, 75]; decide) (by show ∀ d ∈ [68, 69, 70, 71, 72, 73, 74, 75], d < 153; decide) (t8hgA_mono Ao ol co br ort rl cr t other x wr Ext (fun _ _ h => h)) ?_ ⟨?_, ?_, ?_, ?_, ?_, ?_, ?_, ?_, trivial⟩
              · intro W vs hT hR
                match vs, hT with
                | [v0, v1, v2, v3, v4, v5, v6, v7], ⟨e0, e1, e2, e3, e4, e5, e6, e7, _⟩ =>
                  simp only [t8hgA, List.map_cons, List.map_nil, List.zip_cons_cons, List.zip_nil_left, putAll, List.setIfInBounds_toArray, List.set_cons_zero, List.set_cons_succ, List.drop_succ_cons, List.drop_zero]
                  simp only at e1 e3 e4 e5 e6
                  obtain ⟨q0, e0, h0⟩ := e0
                  obtain ⟨q2, e2, h2⟩ := e2
                  obtain ⟨q7, e7, h7⟩ := e7
                  rw [e0, e1, e2, e3, e4, e5, e6, e7]
                  clear e0 e1 e2 e3 e4 e5 e6 e7 v0 v1 v2 v3 v4 v5 v6 v7
                  have hr7 : ItS W (some ⟨q7, 0, none⟩) [x] := ItS.box h7
                  clear hT h0
                  go_wp2_with (first
                    | (at_builtin
                       go_loud (refine wpList_append_IB (w0 := wr) rfl (.tmp 70) (.tmp 75) rfl _ other rfl h2 hR _ 1 1 [x] rfl rfl hr7 (by rw [hol.out, List.length_cons, List.length_nil]; exact hf6.out) ?_)
                       intro v6 w6 o6 x6 g6 e6)
                    | fail)
                  obtain ⟨A6, c6', rfl, hc6, hI6⟩ := o6.open
                  obtain ⟨m6, hm6⟩ : ∃ k, (other ++ [x]).length = k := ⟨_, rfl⟩
                  have hm6k : m6 = ol + 1 := by rw [← hm6, List.length_append, hol.out]; rfl
                  rw [hm6] at hc6 ⊢
                  refine (known_tr A6 m6 c6' (other ++ [x]) w6 hI6 hm6 hc6 (by rw [hm6k]; exact hf7.out)).mono ?_
                  rintro e W7 ⟨rfl, x67⟩
                  have x57 := x6.trans x67
                  have hkx : knownI (other ++ [x]) = knownX other x := by rw [known_snoc, hko.out, Bool.true_and]
                  have hI7 := Lib.hid (hI6.ext x67)
                  replace hRs := Lib.hid (hRs.out.ext x57)
                  replace hx := Lib.hid (hx.out.trans x57)
                  have xq7 := Lib.hid (xq.out.trans x57)
                  replace hm6 := Lib.hid hm6
                  clear d0 d1 d2 d3 d4 d5 d6 hR h2 h7 hr7 g6 e6 hI6 x6 x67 x57 o6 xq hOt
                  rw [hkx]
                  cases hf : knownX other x with
                  | false =>
                    have hnone' := Lib.hid (show ∀ i, i < q + 1 → ∀ z, rest[(p + i) % rl]? = some z → knownX other z = false from fun i hi z hz => by
                      rcases Nat.lt_or_ge i q with g | g
                      · exact hnone.out i g z hz
                      · obtain rfl : i = q := by omega
                        rw [ht.out, hxt.out] at hz
                        injection hz with hz
                        rw [← hz]; exact hf)
                    clear hkx hf hI7 hc6 hRs hx
                    go_wp2
                    go_roundw
                    case rel => exact ⟨rfl, rfl, q + 1, by omega, by go_num, hnone'.out, xq7.out⟩
                    case measure => simp [intOf]; omega
                  | true =>
                    have hkn2 := Lib.hid (show knownI (other ++ [x]) = true by rw [hkx, hf])
                    have hstep := Lib.hid (hpa.out.step hxt.out)
                    have hup := fun W => uptoI (some ⟨br, ort, none⟩) rl cr t hf5.out (t : Int) rfl W
                    have hfr := fun W => fromI (some ⟨br, ort, none⟩) rl cr (t + 1) hf4.out ((t : Int) + 1) rfl W
                    have hwt := hf8.out
                    have htk := Lib.hid (take_len_lt hrl.out hf4.out)
                    have hdr := Lib.hid (show (rest.drop (t + 1)).length = rl - (t + 1) by rw [List.length_drop, hrl.out])
                    have hmo : ((m6 : Int) != (ol : Int) + 1) = false := by rw [hm6k]; simp
                    replace hm6k := Lib.hid hm6k
                    clear hkx hf hnone hpa hxt ht xq7
                    go_wp2_with fail
                    refine wp_soft_frame Ext 9 (t8hgB br ort rl cr t rest W7) (by kernel_rfl) (by kernel_rfl) (fun _ _ _ => Ext.trans) ((Ext.refl _).drew) rfl (by show List.Nodup [80, 81, 82, 83, 84, 85, 86, 87, 88]; decide) (by show ∀ d ∈ [80, 81, 82, 83, 84, 85, 86, 87, 88], d < 153; decide) (t8hgB_mono br ort rl cr t rest W7 Ext (fun _ _ h => h)) ?_ ⟨?_, ?_, ?_, ?_, ?_, ?_, ?_, ?_, ?_, trivial⟩
                    · intro W vs hT hR
                      match vs, hT with
                      | [v0, v1, v2, v3, v4, v5, v6, v7, v8], ⟨e0, e1, e2, e3, e4, e5, e6, e7, e8, _⟩ =>
                        simp only [t8hgB, List.map_cons, List.map_nil, List.zip_cons_cons, List.zip_nil_left, putAll, List.setIfInBounds_toArray, List.set_cons_zero, List.set_cons_succ, List.drop_succ_cons, List.drop_zero]
                        simp only at e1 e2 e3 e5 e6 e7 e8
                        obtain ⟨q0, e0, h0⟩ := e0
                        obtain ⟨q4, e4, h4⟩ := e4
                        rw [e0, e1, e2, e3, e4, e5, e6, e7, e8]
                        clear e0 e1 e2 e3 e4 e5 e6 e7 e8 v0 v1 v2 v3 v4 v5 v6 v7 v8
                        clear hT h0
                        go_wp2_with (first
                          | (at_builtin
                             refine wpList_append_IB (w0 := W7) rfl (.tmp 84) (.tmp 88) rfl _ (rest.take t) rfl h4 hR _ (rl - (t + 1)) (cr - (t + 1)) (rest.drop (t + 1)) rfl hdr.out ((hRs.out.ext hR).cut hrl.out hcr hf4.out) (by rw [htk.out, hdr.out]; exact hf1.out) ?_
                             intro v8 w8 o8 x8 g8 e8
                             obtain ⟨A8, c8, rfl, hc8, hI8⟩ := o8.open
                             have hl8 : (rest.take t ++ rest.drop (t + 1)).length = rl - 1 := by rw [List.length_append, htk.out, hdr.out]; exact hf2.out
                             have hrel8 := Lib.hid (show HgR w3 m (rl - 1) (.slice A8 (rest.take t ++ rest.drop (t + 1)).length c8) (.slice A6 m6 c6') (Vi ((ol : Int) + 1)) w8 from
                               ⟨A8, c8, A6, c6', rest.take t ++ rest.drop (t + 1), other ++ [x], rfl, by rw [hm6.out], by rw [hm6.out, hm6k.out]; rfl, hc8, by rw [hm6.out]; exact hc6, hI8, hI7.out.ext x8, hstep.out, hkn2.out, by rw [hl8]; exact Nat.le_refl _, hx.out.trans x8⟩)
                             clear hc8 hI8 o8 x8 g8 e8 hl8)
                          | fail)
                        go_roundg (rl - 1)
                        case measure => exact hf3.out
                        case rel =>
                          have e1 : min t rest.length + (rest.length - (t + 1)) = (rest.take t ++ rest.drop (t + 1)).length := by rw [List.length_append, List.length_take, List.length_drop]
                          first | exact hrel8.out | (rw [e1, hf9.out]; exact hrel8.out) | (rw [e1]; exact hrel8.out)
                    · refine softR_val 80 _ (by kernel_rfl) rfl rfl ?_
                      intro a W hx hout hdep
                      refine ⟨rfl, .slice (some ⟨W.heap.size, 0, none⟩) 0 0, _, ?_, ⟨_, rfl, hx.size, heap_alloc_new W _⟩, (Ext.refl W).alloc _⟩
                      simp [execOp, go_sem]
                    · refine softR_val 81 _ (by kernel_rfl) rfl rfl ?_
                      intro a W hx hout hdep
                      have ev10 : a.tmps[10]?.getD undef = .slice (some ⟨br, ort, none⟩) rl cr := by rw [← Array.getD_eq_getD_getElem?]; exact hout 10 (by show 10 ∉ [80, 81, 82, 83, 84, 85, 86, 87, 88]; decide)
                      refine ⟨rfl, .slice (some ⟨br, ort, none⟩) rl cr, W, ?_, rfl, Ext.refl _⟩
                      simp [ev10, execOp, go_sem]
                    · refine softR_val 82 _ (by kernel_rfl) rfl rfl ?_
                      intro a W hx hout hdep
                      have ev15 : a.tmps[15]?.getD undef = Vi (t : Int) := by rw [← Array.getD_eq_getD_getElem?]; exact hout 15 (by show 15 ∉ [80, 81, 82, 83, 84, 85, 86, 87, 88]; decide)
                      refine ⟨rfl, Vi (t : Int), W, ?_, rfl, Ext.refl _⟩
                      simp [ev15, execOp, go_sem]
                    · refine softR_val 83 _ (by kernel_rfl) rfl rfl ?_
                      intro a W hx hout hdep
                      have ev81 : a.tmps[81]?.getD undef = .slice (some ⟨br, ort, none⟩) rl cr := by rw [← Array.getD_eq_getD_getElem?]; exact (hdep ⟨1, .data⟩ (by simp) rfl 81 _ rfl).1
                      have ev82 : a.tmps[82]?.getD undef = Vi (t : Int) := by rw [← Array.getD_eq_getD_getElem?]; exact (hdep ⟨2, .data⟩ (by simp) rfl 82 _ rfl).1
                      refine ⟨rfl, .slice (some ⟨br, ort, none⟩) t cr, W, ?_, rfl, Ext.refl _⟩
                      simp [ev81, ev82, hup, execOp, go_sem]
                    · refine softR_val 84 _ (by kernel_rfl) rfl rfl ?_
                      intro a W hx hout hdep
                      have tl80 := (hdep ⟨0, .data⟩ (by simp) rfl 80 _ rfl).1
                      have ev83 : a.tmps[83]?.getD undef = .slice (some ⟨br, ort, none⟩) t cr := by rw [← Array.getD_eq_getD_getElem?]; exact (hdep ⟨3, .data⟩ (by simp) rfl 83 _ rfl).1
                      obtain ⟨q9, eq9, hq9, hc9⟩ := tl80
                      have hs9 : a.eval (.tmp 80) = .slice (some ⟨q9, 0, none⟩) 0 0 := eq9
                      have ht9 : a.eval (.tmp 83) = .slice (some ⟨br, ort, none⟩) t cr := (hdep ⟨3, .data⟩ (by simp) rfl 83 _ rfl).1
                      obtain ⟨v9, w9, hrun9, ho9, hx9⟩ := run_append_I0 W7 W 22 q9 (rest.take t) (some ⟨br, ort, none⟩) t cr htk.out ((hRs.out.ext hx).take t) hx hbt.out hq9 hc9
                      refine ⟨rfl, v9, w9, ?_, ⟨_, rfl, ho9⟩, hx9⟩
                      simp only [execOp, resolve, invoke, builtin, Sem.run_bind, Sem.run_pure, Result.andThen_ok, List.map_toArray, List.map_cons, List.map_nil, hs9, ht9, hrun9]
                    · refine softR_val 85 _ (by kernel_rfl) rfl rfl ?_
                      intro a W hx hout hdep
                      have ev10 : a.tmps[10]?.getD undef = .slice (some ⟨br, ort, none⟩) rl cr := by rw [← Array.getD_eq_getD_getElem?]; exact hout 10 (by show 10 ∉ [80, 81, 82, 83, 84, 85, 86, 87, 88]; decide)
                      refine ⟨rfl, .slice (some ⟨br, ort, none⟩) rl cr, W, ?_, rfl, Ext.refl _⟩
                      simp [ev10, execOp, go_sem]
                    · refine softR_val 86 _ (by kernel_rfl) rfl rfl ?_
                      intro a W hx hout hdep
                      have ev15 : a.tmps[15]?.getD undef = Vi (t : Int) := by rw [← Array.getD_eq_getD_getElem?]; exact hout 15 (by show 15 ∉ [80, 81, 82, 83, 84, 85, 86, 87, 88]; decide)
                      refine ⟨rfl, Vi (t : Int), W, ?_, rfl, Ext.refl _⟩
                      simp [ev15, execOp, go_sem]
                    · refine softR_val 87 _ (by kernel_rfl) rfl rfl ?_
                      intro a W hx hout hdep
                      have ev86 : a.tmps[86]?.getD undef = Vi (t : Int) := by rw [← Array.getD_eq_getD_getElem?]; exact (hdep ⟨6, .data⟩ (by simp) rfl 86 _ rfl).1
                      refine ⟨rfl, Vi ((t : Int) + 1), W, ?_, rfl, Ext.refl _⟩
                      simp [ev86, hwt, hf10.out, execOp, go_sem]
                    · refine softR_val 88 _ (by kernel_rfl) rfl rfl ?_
                      intro a W hx hout hdep
                      have ev85 : a.tmps[85]?.getD undef = .slice (some ⟨br, ort, none⟩) rl cr := by rw [← Array.getD_eq_getD_getElem?]; exact (hdep ⟨5, .data⟩ (by simp) rfl 85 _ rfl).1
                      have ev87 : a.tmps[87]?.getD undef = Vi ((t : Int) + 1) := by rw [← Array.getD_eq_getD_getElem?]; exact (hdep ⟨7, .data⟩ (by simp) rfl 87 _ rfl).1
                      refine ⟨rfl, .slice (cutA (some ⟨br, ort, none⟩) cr (t + 1) 7) (rl - (t + 1)) (cr - (t + 1)), W, ?_, rfl, Ext.refl _⟩
                      simp [ev85, ev87, hfr, execOp, go_sem]
              · refine softR_val 68 _ (by kernel_rfl) rfl rfl ?_
                intro a W hx hout hdep
                refine ⟨rfl, .slice (some ⟨W.heap.size, 0, none⟩) 0 0, _, ?_, ⟨_, rfl, hx.size, heap_alloc_new W _⟩, (Ext.refl W).alloc _⟩
                simp [execOp, go_sem]
              · refine softR_val 69 _ (by kernel_rfl) rfl rfl ?_
                intro a W hx hout hdep
                have ev11 : a.tmps[11]?.getD undef = .slice Ao ol co := by rw [← Array.getD_eq_getD_getElem?]; exact hout 11 (by show 11 ∉ [68, 69, 70, 71, 72, 73, 74, 75]; decide)
                refine ⟨rfl, .slice Ao ol co, W, ?_, rfl, Ext.refl _⟩
                simp [ev11, execOp, go_sem]
              · refine softR_val 70 _ (by kernel_rfl) rfl rfl ?_
                intro a W hx hout hdep
                have tl68 := (hdep ⟨0, .data⟩ (by simp) rfl 68 _ rfl).1
                have ev69 : a.tmps[69]?.getD undef = .slice Ao ol co := by rw [← Array.getD_eq_getD_getElem?]; exact (hdep ⟨1, .data⟩ (by simp) rfl 69 _ rfl).1
                obtain ⟨q9, eq9, hq9, hc9⟩ := tl68
                have hs9 : a.eval (.tmp 68) = .slice (some ⟨q9, 0, none⟩) 0 0 := eq9
                have ht9 : a.eval (.tmp 69) = .slice Ao ol co := (hdep ⟨1, .data⟩ (by simp) rfl 69 _ rfl).1
                obtain ⟨v9, w9, hrun9, ho9, hx9⟩ := run_append_I0 wr W 22 q9 other Ao ol co hol.out (hOt.out.ext hx) hx hbo.out hq9 hc9
                refine ⟨rfl, v9, w9, ?_, ⟨_, rfl, ho9⟩, hx9⟩
                simp only [execOp, resolve, invoke, builtin, Sem.run_bind, Sem.run_pure, Result.andThen_ok, List.map_toArray, List.map_cons, List.map_nil, hs9, ht9, hrun9]
              · refine softR_val 71 _ (by kernel_rfl) rfl rfl ?_
                intro a W hx hout hdep
                have ev10 : a.tmps[10]?.getD undef = .slice (some ⟨br, ort, none⟩) rl cr := by rw [← Array.getD_eq_getD_getElem?]; exact hout 10 (by show 10 ∉ [68, 69, 70, 71, 72, 73, 74, 75]; decide)
                refine ⟨rfl, .slice (some ⟨br, ort, none⟩) rl cr, W, ?_, rfl, Ext.refl _⟩
                simp [ev10, execOp, go_sem]
              · refine softR_val 72 _ (by kernel_rfl) rfl rfl ?_
                intro a W hx hout hdep
                have ev15 : a.tmps[15]?.getD undef = Vi (t : Int) := by rw [← Array.getD_eq_getD_getElem?]; exact hout 15 (by show 15 ∉ [68, 69, 70, 71, 72, 73, 74, 75]; decide)
                refine ⟨rfl, Vi (t : Int), W, ?_, rfl, Ext.refl _⟩
                simp [ev15, execOp, go_sem]
              · refine softR_val 73 _ (by kernel_rfl) rfl rfl ?_
                intro a W hx hout hdep
                have ev71 : a.tmps[71]?.getD undef = .slice (some ⟨br, ort, none⟩) rl cr := by rw [← Array.getD_eq_getD_getElem?]; exact (hdep ⟨3, .data⟩ (by simp) rfl 71 _ rfl).1
                have ev72 : a.tmps[72]?.getD undef = Vi (t : Int) := by rw [← Array.getD_eq_getD_getElem?]; exact (hdep ⟨4, .data⟩ (by simp) rfl 72 _ rfl).1
                refine ⟨rfl, .pointer (some ⟨br, ort + t * 7, none⟩), W, ?_, rfl, Ext.refl _⟩
                simp [ev71, ev72, ht1, ht2, execOp, go_sem]
              · refine softR_val 74 _ (by kernel_rfl) rfl rfl ?_
                intro a W hx hout hdep
                have ev73 : a.tmps[73]?.getD undef = .pointer (some ⟨br, ort + t * 7, none⟩) := by rw [← Array.getD_eq_getD_getElem?]; exact (hdep ⟨5, .data⟩ (by simp) rfl 73 _ rfl).1
                have q0 := hx.keep d0
                have q1 := hx.keep d1
                have q2 := hx.keep d2
                have q3 := hx.keep d3
                have q4 := hx.keep d4
                have q5 := hx.keep d5
                have q6 := hx.keep d6
                refine ⟨rfl, itv x, W, ?_, rfl, Ext.refl _⟩
                simp [ev73, q0, q1, q2, q3, q4, q5, q6, execOp, go_sem]
              · refine softR_val 75 _ (by kernel_rfl) rfl rfl ?_
                intro a W hx hout hdep
                have ev74 : a.tmps[74]?.getD undef = itv x := by rw [← Array.getD_eq_getD_getElem?]; exact (hdep ⟨6, .data⟩ (by simp) rfl 74 _ rfl).1
                refine ⟨rfl, .slice (some ⟨W.heap.size, 0, none⟩) 1 1, _, ?_, ⟨_, rfl, heap_alloc_new W _⟩, (Ext.refl W).alloc _⟩
                simp [ev74, execOp, go_sem]
            · exfalso
              have hqe : q = rl := by omega
              obtain ⟨j, zj, hj, hkj⟩ := come_some hkm.out hpa.out.ho hpa.out.hr hpa.out.dis hpa.out.cov (fun e => by rw [e] at hrl; have := hrl.out; simp at this; omega)
              obtain ⟨i, hi, hij⟩ := come_round hpr (by have := lt_of_get hj; rw [hrl.out] at this; exact this)
              rw [← hij] at hj
              rw [hnone i (by omega) zj hj] at hkj
              cases hkj
      · have hr00 : rl = 0 := by omega
        have hdl : decide (0 < rl) = false := decide_eq_false hr0
        have hrest : rest = [] := List.eq_nil_of_length_eq_zero (by rw [hrl.out]; exact hr00)
        subst hrest
        have hfull := hpa.out.full
        have hag := again_is hkm.out hko.out hfull hIs.out (ordW_is hko.out)
        have hsubm := Lib.hid hpa.out.ho
        have hok : ol = k := by have := hsum.out; omega
        have hor := Lib.hid (order_tr Ao ol co other wr hOt.out hko.out hol.out hco (by omega))
        rw [hag] at hor
        subst hok
        clear hfull hag hpa hRs hcr
        go_wp2_with fail
        refine hor.out.mono ?_
        rintro e W4 ⟨v4, rfl, o4, x4⟩
        obtain ⟨A9, c9, rfl, _, hO9⟩ := o4.open
        have hsm := Lib.hid (sameO_ref A9 A4 O.length ol c9 c4 O O W4 hO9 ((hO3.out.ext hx.out).ext x4) rfl hOl.out (by rw [hOl.out]; omega) (by omega))
        rw [show decide (O = O) = true from decide_eq_true rfl] at hsm
        have hx4 := Lib.hid (hx.out.trans x4)
        replace hOt := Lib.hid (hOt.out.ext x4)
        clear o4 hO9 x4 hor hx
        go_wp2_with fail
        refine hsm.out.mono ?_
        rintro e W5 ⟨rfl, x5⟩
        have hpk2 : ∀ W, Calls Try.prog 15 #[Vi z, Vi ((ol : Int) + 1)] W fun e w' => (∃ r : Nat, r < ol + 1 ∧ e = .returned (Vi (r : Int))) ∧ W = w' := fun W => pick8_any z (ol + 1) W (by omega) (by omega)
        have hwo : wrap64 ((ol : Int) + 1) = (ol : Int) + 1 := w64_in (by omega) (by omega)
        have hx5 := Lib.hid (hx4.out.trans x5)
        replace hOt := Lib.hid (hOt.out.ext x5)
        clear x5 hsm hx4
        go_wp2_with fail
        refine (hpk2 _).mono ?_
        rintro e w6 ⟨⟨f, hf, rfl⟩, rfl⟩
        clear hpk2
        have hup2 := fun W => uptoI Ao ol co f (by omega) (f : Int) rfl W
        obtain ⟨few, hfew⟩ : ∃ few, other.take f = few := ⟨_, rfl⟩
        have hkf := Lib.hid (show knownI few = true by rw [← hfew]; exact few_known hko.out f)
        have hfl := Lib.hid (show few.length = f by rw [← hfew, List.length_take, hol.out]; omega)
        have hFs := Lib.hid (show ItS W5 Ao few by rw [← hfew]; exact hOt.out.take f)
        have hpt := part_is hkm.out hkf.out (fun x hx => hsubm.out x (by rw [← hfew] at hx; exact List.mem_of_mem_take hx)) hIs.out (ordW_is hkf.out)
        have hpt1 := Lib.hid hpt.1
        have hpt2 := Lib.hid (hpt.2.trans hfl.out)
        have hOo := Lib.hid (hO3.out.ext hx5.out)
        have hl0 := Lib.hid (show OwnO W5 W5 (.slice none 0 0) ((O.take 0).filter (hasI few)) from OwnO.nil _ _)
        have he0 := Lib.hid (Ext.refl W5)
        have hfol : f ≤ co := by omega
        clear hpt hfew hOt hko hsubm hol
        go_wp2
        go_loopw [19, 20, 21] (fun vl vi _ W => ∃ (j : Nat), j ≤ ol ∧ vi = Vi (j : Int) ∧ Hid (OwnO W5 W vl ((O.take j).filter (hasI few))) ∧ Hid (Ext W5 W)) (fun _ vi _ _ => ol - (intOf vi).toNat)
        case atStart => exact ⟨0, Nat.zero_le _, rfl, hl0, he0⟩
        case round =>
          clear hl0 he0
          obtain ⟨j, hj, rfl, hlo, hxj⟩ := hrel
          by_cases hjl : j < ol
          · obtain ⟨bo, oo, a, hA4, haj, a0, a1⟩ := hOo.out.at (k := j) (by rw [hOl.out]; exact hjl)
            subst hA4
            have hfs := Lib.hid (filter_step few O haj)
            have hdj : decide (j < ol) = true := decide_eq_true hjl
            have hj1 : (0 : Int) ≤ (j : Int) := by omega
            have hj2 : (j : Int) < (ol : Int) := by omega
            obtain ⟨oa, ob⟩ := a
            simp only at a0 a1
            obtain ⟨base, hbase⟩ : ∃ base, (O.take j).filter (hasI few) = base := ⟨_, rfl⟩
            have hbl : base.length ≤ j := by
              rw [← hbase]
              exact Nat.le_trans (List.length_filter_le _ _) (by rw [List.length_take]; omega)
            rw [hbase] at hlo hfs
            have hl1 := Lib.hid (show OwnO W5 wr u19 (base ++ if hasI (few.take 0) (oa, ob) then [(oa, ob)] else []) by
              have := hlo.out
              rw [List.take_zero, show hasI [] (oa, ob) = false from rfl]
              simpa using this)
            have he1 := hxj
            clear hlo haj hbase
            go_wp2
            go_loopw [19, 21] (fun vl vq W => ∃ (q : Nat), q ≤ f ∧ vq = Vi (q : Int) ∧ Hid (OwnO W5 W vl (base ++ if hasI (few.take q) (oa, ob) then [(oa, ob)] else [])) ∧ Hid (Ext W5 W)) (fun _ vq _ => f - (intOf vq).toNat)
            case atStart => exact ⟨0, Nat.zero_le _, rfl, hl1, he1⟩
            case round =>
              clear hl1 he1
              obtain ⟨q, hq, rfl, hlq, hxq⟩ := hrel
              have xjq := hxq
              by_cases hqf : q < f
              · obtain ⟨bf, of', x, hAo, hxp, dx⟩ := (hFs.out.ext xjq.out).at (k := q) (by rw [hfl.out]; exact hqf)
                subst hAo
                obtain ⟨c0, c1, _, _, _, _, _⟩ := dx
                have hdq : decide (q < f) = true := decide_eq_true hqf
                have hq1 : (0 : Int) ≤ (q : Int) := by omega
                have hq2 : (q : Int) < (f : Int) := by omega
                have b0 := hxq.out.keep a0
                have b1 := hxq.out.keep a1
                have htq := take_get hxp
                by_cases hs : x.c = oa ∧ x.k = ob
                · have hqe : ∀ W : World, (binOp .eql 25 (.agg #[.int .u32 x.c, .int .u32 x.k]) (.agg #[.int .u32 oa, .int .u32 ob])).run Try.prog W = .ok (.bool true) W := fun W => by rw [idT_eql, decide_eq_true hs]
                  have hno : hasI (few.take q) (oa, ob) = false := by
                    have h9 := known_take hkf.out (q + 1)
                    rw [htq, known_snoc, Bool.and_eq_true] at h9
                    have h8 := (knownX_spec h9.2).2.1
                    unfold iid at h8
                    rw [hs.1, hs.2] at h8
                    exact h8
                  have hye : hasI (few.take (q + 1)) (oa, ob) = true := by
                    rw [htq, has_snoc]
                    simp [iid, hs.1, hs.2]
                  have hlq2 := hlq.out
                  rw [hno] at hlq2
                  simp only [Bool.false_eq_true, if_false, List.append_nil] at hlq2
                  replace hlq2 := Lib.hid hlq2
                  replace hye := Lib.hid hye
                  clear hno hs htq hxp hlq
                  go_wp2
                  go_quiet (fail)
                  go_wp2_with (first
                    | (at_builtin
                       refine wpList_append_O (w0 := W5) rfl (.tmp 128) (.tmp 133) rfl _ base rfl (hlq2.out.ext (((Ext.refl _).drewN _).alloc _)) ((xjq.out.drewN _).alloc _) _ 1 1 [(oa, ob)] rfl rfl (OdS.newAt (oa, ob) rfl) (by rw [List.length_cons, List.length_nil]; omega) ?_
                       intro v8 w8 o8 x8 g8 e8
                       replace x8 := Lib.hid x8
                       have hl8 := Lib.hid (show OwnO W5 w8 v8 (base ++ if hasI (few.take (q + 1)) (oa, ob) then [(oa, ob)] else []) by rw [hye.out]; exact o8)
                       clear o8 g8 e8)
                    | fail)
                  go_roundw
                  case rel => exact ⟨q + 1, by omega, by go_num, hl8, x8⟩
                  case measure => simp [intOf]; omega
                · have hqe : ∀ W : World, (binOp .eql 25 (.agg #[.int .u32 x.c, .int .u32 x.k]) (.agg #[.int .u32 oa, .int .u32 ob])).run Try.prog W = .ok (.bool false) W := fun W => by rw [idT_eql, decide_eq_false hs]
                  have hsame : hasI (few.take (q + 1)) (oa, ob) = hasI (few.take q) (oa, ob) := by
                    rw [htq, has_snoc]
                    have : decide (iid x = (oa, ob)) = false := decide_eq_false (fun e => hs (by unfold iid at e; injection e with e1 e2; exact ⟨e1, e2⟩))
                    rw [this, Bool.or_false]
                  have hlq2 := Lib.hid (show OwnO W5 wr u19 (base ++ if hasI (few.take (q + 1)) (oa, ob) then [(oa, ob)] else []) by rw [hsame]; exact hlq.out)
                  clear hs htq hxp hlq hsame
                  go_wp2
                  go_quiet (fail)
                  go_wp2
                  go_roundw
                  case rel => exact ⟨q + 1, by omega, by go_num, Lib.hid (hlq2.out.ext ((Ext.refl _).drewN _)), Lib.hid (hxq.out.drewN _)⟩
                  case measure => simp [intOf]; omega
              · have hqe : q = f := by omega
                have hdq : decide (q < f) = false := decide_eq_false hqf
                have hln := Lib.hid (show OwnO W5 wr u19 ((O.take (j + 1)).filter (hasI few)) by
                  have := hlq.out
                  rw [hqe, List.take_of_length_le (by rw [hfl.out]; exact Nat.le_refl _)] at this
                  rw [hfs.out]; exact this)
                clear hlq hqe
                go_wp2
                go_roundw
                case rel => exact ⟨j + 1, by omega, by go_num, hln, xjq⟩
                case measure => simp [intOf]; omega
          · have hje : j = ol := by omega
            have hdj : decide (j < ol) = false := decide_eq_false hjl
            have hlf : OwnO W5 wr u19 (O.filter (hasI few)) := by
              have := hlo.out
              rwa [hje, List.take_of_length_le (by rw [hOl.out]; exact Nat.le_refl _)] at this
            obtain ⟨AL, cL, rfl, hcL, hIL⟩ := hlf.open
            rw [hpt2.out] at hcL ⊢
            have horf := Lib.hid (order_tr Ao f co few wr (hFs.out.ext hxj.out) hkf.out hfl.out hfol (by omega))
            rw [hpt1.out] at horf
            have hffk : ((f : Int) == (f : Int)) = true := by simp
            replace hIL := Lib.hid hIL
            clear hlf hlo hje
            go_wp2_with fail
            refine horf.out.mono ?_
            rintro e W7 ⟨v7, rfl, o7, x7⟩
            obtain ⟨A7, c7, rfl, _, hO7⟩ := o7.open
            rw [hpt2.out]
            have hsm2 := Lib.hid (sameO_ref A7 AL f f c7 cL (O.filter (hasI few)) (O.filter (hasI few)) W7 hO7 (hIL.out.ext x7) hpt2.out hpt2.out (by omega) (by omega))
            rw [show decide (O.filter (hasI few) = O.filter (hasI few)) = true from decide_eq_true rfl] at hsm2
            have hx7 := Lib.hid ((hx5.out.trans hxj.out).trans x7)
            clear o7 hO7 x7 horf
            go_wp2_with fail
            refine hsm2.out.mono ?_
            rintro e W8 ⟨rfl, x8⟩
            have hxe := Lib.hid (xw3.out.trans (hx7.out.trans x8))
            clear x8 hsm2
            go_wp2
            go_ret
            exact ⟨by simp, hxe.out⟩

end Go.Proofs.Ytnocdfmmhnnbeaa
