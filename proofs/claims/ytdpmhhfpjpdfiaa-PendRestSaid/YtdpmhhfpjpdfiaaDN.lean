/-
  Several texts of this seat in one file, each in the namespace again; no claim stands here.
-/
import Derived.Orders
import Derived.StillTail
import Derived.Test.YtdpmhhfpjpdfiaaDM
import Derived.Test.YtdpmhhfpjpdfiaaDL
namespace Go.Proofs.Ytdpmhhfpjpdfiaa
open Go.ChangeShapes Go.WideShapes Go.ChangeAt Go.RowKit Go.Sort Go.Maps
set_option linter.unusedVariables false
set_option linter.unusedSimpArgs false
set_option linter.unusedSimpArgs false

def addW (Wt : List (I2 × Value × List Int)) (a : I2) (v : Value) (i : Int) : List (I2 × Value × List Int) :=
  if (lkp (mapT Wt) a).isSome then Wt.map fun t => if t.1 = a then (a, v, t.2.2 ++ [i]) else t else Wt ++ [(a, v, [i])]
def plW (Wt : List (I2 × Value × List Int)) : List (I2 × List Int) := Wt.map fun t => (t.1, t.2.2)
def addP (p : List (I2 × List Int)) (a : I2) (i : Int) : List (I2 × List Int) := if a ∈ p.map (·.1) then p.map (fun t => if t.1 = a then (a, t.2 ++ [i]) else t) else p ++ [(a, [i])]
theorem lkpT_some {Wt : List (I2 × Value × List Int)} {a : I2} {v : Value} (h : lkp (mapT Wt) a = some v) : ∃ l, (a, v, l) ∈ Wt := by
  have h1 := fndW_lkp (mapT Wt) a
  rw [h] at h1
  cases hf : fndW (mapT Wt) a with
  | none => rw [hf] at h1; cases h1
  | some q =>
    obtain ⟨k, u⟩ := q
    rw [hf] at h1
    have h2 := List.mem_of_getElem? (fndW_at hf)
    obtain ⟨t, ht, e⟩ := List.mem_map.1 h2
    simp at h1
    subst h1
    injection e with e1 e2
    exact ⟨t.2.2, by rw [← e1, ← e2]; exact ht⟩
theorem lkpT_none {Wt : List (I2 × Value × List Int)} {a : I2} (h : lkp (mapT Wt) a = none) : ∀ t ∈ Wt, t.1 ≠ a := fun t ht => lkp_none.1 h (t.1, t.2.1) (List.mem_map.2 ⟨t, ht, rfl⟩)
theorem lkpT_mem {Wt : List (I2 × Value × List Int)} {a : I2} : (lkp (mapT Wt) a).isSome = true ↔ a ∈ (plW Wt).map (·.1) := by
  unfold plW
  rw [List.map_map]
  constructor
  · intro h
    cases hk : lkp (mapT Wt) a with
    | none => rw [hk] at h; cases h
    | some v =>
      obtain ⟨l, hl⟩ := lkpT_some hk
      exact List.mem_map.2 ⟨_, hl, rfl⟩
  · intro h
    obtain ⟨t, ht, e⟩ := List.mem_map.1 h
    cases hk : lkp (mapT Wt) a with
    | none => exact absurd e (lkpT_none hk t ht)
    | some v => rfl
theorem plW_add (Wt : List (I2 × Value × List Int)) (a : I2) (v : Value) (i : Int) : plW (addW Wt a v i) = addP (plW Wt) a i := by
  unfold addW addP
  by_cases h : (lkp (mapT Wt) a).isSome = true
  · rw [if_pos h, if_pos (lkpT_mem.1 h)]
    unfold plW
    rw [List.map_map, List.map_map]
    refine List.map_congr_left fun t _ => ?_
    simp only [Function.comp]
    split <;> rfl
  · rw [if_neg h, if_neg (fun e => h (lkpT_mem.2 e))]
    unfold plW
    rw [List.map_append]; rfl
theorem mapT_add (Wt : List (I2 × Value × List Int)) (a : I2) (v : Value) (i : Int) : mapT (addW Wt a v i) = putW (opnW (mapT Wt) a) a v := by
  unfold addW opnW putW
  by_cases h : (lkp (mapT Wt) a).isSome = true
  · rw [if_pos h, if_pos h]
    unfold mapT
    rw [List.map_map, List.map_map]
    refine List.map_congr_left fun t _ => ?_
    simp only [Function.comp]
    split <;> rfl
  · rw [if_neg h, if_neg h, List.map_append, List.map_cons, List.map_nil, if_pos rfl]
    have hn : lkp (mapT Wt) a = none := by
      cases hk : lkp (mapT Wt) a with
      | none => rfl
      | some v => rw [hk] at h; exact absurd rfl h
    have : (mapT Wt).map (fun p => if p.1 = a then (a, v) else p) = mapT Wt := by
      have h1 : (mapT Wt).map (fun p => if p.1 = a then (a, v) else p) = (mapT Wt).map id := List.map_congr_left fun p hp => if_neg (lkp_none.1 hn p hp)
      rw [h1, List.map_id]
    rw [this]
    unfold mapT
    rw [List.map_append]; rfl
theorem keys_add {Wt : List (I2 × Value × List Int)} {a : I2} {v : Value} {i : Int} (hn : (Wt.map (·.1)).Nodup) : ((addW Wt a v i).map (·.1)).Nodup := by
  unfold addW
  by_cases h : (lkp (mapT Wt) a).isSome = true
  · rw [if_pos h, List.map_map]
    have : Wt.map ((fun t : I2 × Value × List Int => t.1) ∘ fun t => if t.1 = a then (a, v, t.2.2 ++ [i]) else t) = Wt.map (·.1) := by
      refine List.map_congr_left fun t _ => ?_
      simp only [Function.comp]
      split
      · rename_i e; exact e.symm
      · rfl
    rw [this]
    exact hn
  · rw [if_neg h, List.map_append]
    have hn' : lkp (mapT Wt) a = none := by
      cases hk : lkp (mapT Wt) a with
      | none => rfl
      | some v => rw [hk] at h; exact absurd rfl h
    refine List.nodup_append.2 ⟨hn, by simp, fun x hx y hy => ?_⟩
    obtain ⟨t, ht, rfl⟩ := List.mem_map.1 hx
    simp at hy
    subst hy
    exact lkpT_none hn' t ht
theorem key_one {Wt : List (I2 × Value × List Int)} (hn : (Wt.map (·.1)).Nodup) {s t : I2 × Value × List Int} (hs : s ∈ Wt) (ht : t ∈ Wt) (e : s.1 = t.1) : s = t := by
  obtain ⟨i, hi⟩ := List.getElem?_of_mem hs
  obtain ⟨j, hj⟩ := List.getElem?_of_mem ht
  have h1 : (Wt.map (·.1))[i]? = some t.1 := by rw [List.getElem?_map, hi, ← e]; rfl
  have h2 : (Wt.map (·.1))[j]? = some t.1 := by rw [List.getElem?_map, hj]; rfl
  have l1 := (List.getElem?_eq_some_iff.1 h1).1
  have l2 := (List.getElem?_eq_some_iff.1 h2).1
  rcases Nat.lt_trichotomy i j with h3 | h3 | h3
  · have := List.pairwise_iff_getElem.1 hn i j l1 l2 h3
    rw [(List.getElem?_eq_some_iff.1 h1).2, (List.getElem?_eq_some_iff.1 h2).2] at this
    exact absurd rfl this
  · subst h3
    rw [hi] at hj
    injection hj
  · have := List.pairwise_iff_getElem.1 hn j i l2 l1 h3
    rw [(List.getElem?_eq_some_iff.1 h1).2, (List.getElem?_eq_some_iff.1 h2).2] at this
    exact absurd rfl this

def AskTo (W : World) (g : TkV) (W' : World) (g' : TkV) : Prop := W.heap.size ≤ W'.heap.size ∧ ∀ b, b < W.heap.size → g.tg b = .x → W'.heap[b]? = W.heap[b]? ∧ g'.tg b = .x
theorem AskTo.refl (W : World) (g : TkV) : AskTo W g W g := ⟨Nat.le_refl _, fun _ _ h => ⟨rfl, h⟩⟩
theorem AskTo.trans {W W1 W2 : World} {g g1 g2 : TkV} (h : AskTo W g W1 g1) (k : AskTo W1 g1 W2 g2) : AskTo W g W2 g2 :=
  ⟨Nat.le_trans h.1 k.1, fun b hb e => by
    obtain ⟨h1, h2⟩ := h.2 b hb e
    obtain ⟨h3, h4⟩ := k.2 b (Nat.lt_of_lt_of_le hb h.1) h2
    exact ⟨h3.trans h1, h4⟩⟩
theorem AskTo.ext {W W1 : World} (g : TkV) (hx : Ext W W1) : AskTo W g W1 g := ⟨hx.size, fun b hb e => ⟨RowKit.Below.block hx b hb, e⟩⟩

section
variable {w0 W : World} {T : Nat} {A : Option Addr} {n cap : Nat} {V0 V : List (Int × Int)} {Xs : List It} {bs : List Bool} {C : List It} {hs : List Int} {g : TkV}
theorem TkS.pushed (h : TkS w0 W T A n cap V0 V Xs bs C hs g) {W' : World} {v' : Value} {l' : List Int} (hh : HpS w0 W' T ((cellsT A n cap g).setIfInBounds 5 v') v' l') (hn : NewB W g.vr v')
    (ht : TSb (fun b => b = T ∨ g.vr.ownBlock = some b) W W') : ∃ g', TkS w0 W' T A n cap V0 V Xs bs C l' g' ∧ g'.Wt = g.Wt ∧ g'.vr = v' ∧ AskTo W g W' g' := by
  have hS : ∀ b, (b = T ∨ g.vr.ownBlock = some b) → g.tg b = .t ∨ g.tg b = .r := fun b hb => by
    rcases hb with rfl | e
    · exact .inl h.gT
    · exact .inr (h.gr b e)
  have hk : ∀ b, b < W.heap.size → (if v'.ownBlock = some b then Tg.r else g.tg b) = g.tg b := fun b hb => by
    split
    · rename_i e
      rcases hn with e2 | ⟨q, e2, hq⟩
      · rw [e2] at e; exact (h.gr b e).symm
      · rw [e2] at e; injection e with e; omega
    · rfl
  obtain ⟨nn9, D, _, hD, _⟩ := h.kn
  refine ⟨{ g with vr := v', tg := fun b => if v'.ownBlock = some b then .r else g.tg b }, { tb := hh.tb, vec := h.vec, kn := h.knT ht (fun b hb e => ?_), its := h.itsT ht (fun b hb e => ?_), came := h.cameT ht (fun b hb e => ?_), come := h.comeT ht (fun b hb e => ?_), ready := hh.own, wm := h.wmT ht (fun b hb e => ?_), wl := h.wlT ht (fun b hb a e => ?_), keys := h.keys, low := h.lowT ht (fun b hb => ?_), gT := (hk T h.tb.lt).trans h.gT, gS := (hk _ hD.lt).trans h.gS, gM := (hk _ h.wm.lt).trans h.gM, gX := fun b hb => (hk b (OwnI.lt h.its b hb).2).trans (h.gX b hb), gC := fun b hb => (hk b (World.ownsRow.lt h.came b hb).2).trans (h.gC b hb), go := fun b hb => (hk b (OwnI.lt h.come b hb).2).trans (h.go b hb), gr := fun b hb => if_pos hb, gw := fun t ht b hb => (hk b (OwnZ.lt (h.wl t ht) b hb).2).trans (h.gw t ht b hb), bT := h.bT, bbS := h.bbS, bbW := h.bbW }, rfl, rfl, ht.size, fun b hb e => ⟨ht.block b hb (fun e2 => ?_), (hk b hb).trans e⟩⟩
  case refine_7 =>
    rcases hb with rfl | e
    · exact h.bT
    · exact (OwnZ.lt h.ready b e).1
  case refine_8 => rcases hS b e2 with k | k <;> rw [e] at k <;> cases k
  all_goals (rcases hS b hb with k | k <;> rw [e] at k <;> cases k)

set_option maxRecDepth 100000 in
theorem TkS.await (h : TkS w0 W T A n cap V0 V Xs bs C hs g) (a : I2) (i : Int) (q : Nat) (hq : W.heap[q]? = some (.cells #[Vi i] 3 (0, 0))) (hqm : g.bW ≠ q) (hw : ∀ t ∈ g.Wt, t.2.2.length ≤ 1000) :
    ∃ v0 st w2 v3 w3 w4 g', (Instr.mapEntry 53 (.map (some g.bW)) (.agg #[.int .u32 a.1, .int .u32 a.2])).run Try.prog W = .ok (.tuple #[v0, .int .i64 (st : Nat)]) w2 ∧
      (Builtin.append_ #[51, 51] 51 #[v0, .slice (some ⟨q, 0, none⟩) 1 1]).run Try.prog w2 = .ok v3 w3 ∧
      (Instr.entryStore 53 (.map (some g.bW)) (.int .i64 (st : Nat)) v3).run Try.prog w3 = .ok () w4 ∧
      TkS w0 w4 T A n cap V0 V Xs bs C hs g' ∧ plW g'.Wt = addP (plW g.Wt) a i ∧ AskTo W g w4 g' := by
  obtain ⟨w2, st, h2, hB, g2⟩ := h.wm.entry (T := 53) Try.underlying53 (by kernel_rfl) a
  have t2 := tsb_grown g2
  have hmS : ∀ b, some g.bW = some b → g.tg b = .m := fun b e => by injection e with e; rw [← e]; exact h.gM
  have hk2 : (mapT g.Wt).map (·.1) = g.Wt.map (·.1) := by unfold mapT; rw [List.map_map]; rfl
  obtain ⟨v0, hv0⟩ : ∃ v0, (lkp (mapT g.Wt) a).getD (.slice none 0 0) = v0 := ⟨_, rfl⟩
  rw [hv0] at h2
  have hl0 : ∃ l0, OwnZ w0 w2 v0 l0 ∧ l0.length ≤ 1000 ∧ (∀ b, v0.ownBlock = some b → b < W.heap.size ∧ g.tg b = .w a) ∧ (((lkp (mapT g.Wt) a).isSome = true → (a, v0, l0) ∈ g.Wt) ∧ ((lkp (mapT g.Wt) a).isSome ≠ true → l0 = [])) := by
    cases hk : lkp (mapT g.Wt) a with
    | none =>
      rw [hk] at hv0
      subst hv0
      exact ⟨[], OwnZ.nil _ _, Nat.zero_le _, fun b e => (by cases e), fun e => (by cases e), fun _ => rfl⟩
    | some v =>
      rw [hk] at hv0
      obtain ⟨l, hl⟩ := lkpT_some hk
      have e : v = v0 := hv0
      subst e
      refine ⟨l, OwnZ.ts (h.wl _ hl) t2 (fun b hb e => ?_), hw _ hl, fun b hb => ⟨(OwnZ.lt (h.wl _ hl) b hb).2, h.gw _ hl b hb⟩, fun _ => hl, fun e => absurd rfl e⟩
      have h1 := h.gw _ hl b hb
      rw [hmS b e] at h1
      cases h1
  obtain ⟨l0, ho0, hb0, ht0, hc1, hc2⟩ := hl0
  have hs2 : w0.heap.size ≤ w2.heap.size := Nat.le_trans h.low.size g2.size
  have hql : q < W.heap.size := (Array.getElem?_eq_some_iff.1 hq).1
  have hz : ZS w2 (some ⟨q, 0, none⟩) [i] := fun _ => ⟨q, 0, rfl, fun j u hu => by
    have e2 : w2.heap[q]? = some (.cells #[Vi i] 3 (0, 0)) := (t2.block q hql (fun e => hqm (by injection e))).trans hq
    have hj : j = 0 := by
      have := (List.getElem?_eq_some_iff.1 hu).1
      simp at this; omega
    subst hj
    simp at hu
    subst hu
    simp [World.cell?, e2]⟩
  obtain ⟨v3, w3, h3, ho3, g3, b3⟩ := app_Z w0 w2 51 v0 l0 ho0 hs2 _ 1 1 [i] rfl hz (by simp only [List.length_cons, List.length_nil]; omega)
  have t3 := tsb_grown g3
  have hB3 : MapB w3 g.bW (opnW (mapT g.Wt) a) a st := hB.of (t3.block _ hB.lt fun e => by
    have h1 := (ht0 _ e).2
    rw [h.gM] at h1
    cases h1)
  have hnk : ((opnW (mapT g.Wt) a).map (·.1)).Nodup := by
    have h1 := keys_add (Wt := g.Wt) (a := a) (v := .slice none 0 0) (i := 0) h.keys
    have h4 : mapT (addW g.Wt a (.slice none 0 0) 0) = putW (opnW (mapT g.Wt) a) a (.slice none 0 0) := mapT_add _ _ _ _
    have h5 : (putW (opnW (mapT g.Wt) a) a (.slice none 0 0)).map (·.1) = (opnW (mapT g.Wt) a).map (·.1) := by
      unfold putW
      rw [List.map_map]
      refine List.map_congr_left fun t _ => ?_
      simp only [Function.comp]
      split
      · rename_i e; exact e.symm
      · rfl
    rw [← h5, ← h4]
    unfold mapT
    rw [List.map_map]
    exact h1
  obtain ⟨w4, h4, hM4, g4⟩ := hB3.store hnk 53 v3
  have t4 := tsb_grown g4
  have t9 : TSb (fun b => g.tg b = .m ∨ g.tg b = .w a) W w4 := TSb.trans (TSb.trans (tsb_mono t2 (fun j _ e => Or.inl (hmS j e))) t3 (fun j _ e => Or.inr (ht0 j e).2)) t4 (fun j _ e => Or.inl (hmS j e))
  have hk : ∀ b, b < W.heap.size → (if v3.ownBlock = some b then Tg.w a else g.tg b) = g.tg b := fun b hb => by
    split
    · rename_i e
      rcases b3 with e2 | e2
      · rw [e2] at e; exact (ht0 b e).2.symm
      · rw [e2] at e; injection e with e; have := g2.size; omega
    · rfl
  have ho4 : OwnZ w0 w4 v3 (l0 ++ [i]) := OwnZ.ts ho3 t4 (fun b hb e => by
    injection e with e
    subst e
    rcases b3 with e2 | e2
    · rw [e2] at hb
      have h1 := (ht0 _ hb).2
      rw [h.gM] at h1
      cases h1
    · rw [e2] at hb
      injection hb with hb
      have := h.wm.lt
      have := g2.size
      omega)
  obtain ⟨nn9, D, _, hD, _⟩ := h.kn
  have hwl : ∀ t ∈ addW g.Wt a v3 i, (t = (a, v3, l0 ++ [i])) ∨ (t ∈ g.Wt ∧ t.1 ≠ a) := by
    intro t ht
    unfold addW at ht
    split at ht
    · rename_i hsm
      obtain ⟨s, hs', e⟩ := List.mem_map.1 ht
      split at e
      · rename_i e1
        have e2 := key_one h.keys hs' (hc1 hsm) e1
        rw [e2] at e
        exact .inl e.symm
      · rename_i e1
        rw [← e]
        exact .inr ⟨hs', e1⟩
    · rename_i hsm
      rcases List.mem_append.1 ht with h1 | h1
      · refine .inr ⟨h1, ?_⟩
        have hn' : lkp (mapT g.Wt) a = none := by
          cases hk : lkp (mapT g.Wt) a with
          | none => rfl
          | some v => rw [hk] at hsm; exact absurd rfl hsm
        exact lkpT_none hn' t h1
      · rw [hc2 hsm]
        simp at h1
        exact .inl h1
  refine ⟨v0, st, w2, v3, w3, w4, { g with Wt := addW g.Wt a v3 i, tg := fun b => if v3.ownBlock = some b then .w a else g.tg b }, h2, h3, h4, { tb := h.tbT t9 (fun b hb e => ?_), vec := h.vec, kn := h.knT t9 (fun b hb e => ?_), its := h.itsT t9 (fun b hb e => ?_), came := h.cameT t9 (fun b hb e => ?_), come := h.comeT t9 (fun b hb e => ?_), ready := h.readyT t9 (fun b hb e => ?_), wm := (mapT_add g.Wt a v3 i) ▸ hM4, wl := ?_, keys := keys_add h.keys, low := ?_, gT := (hk T h.tb.lt).trans h.gT, gS := (hk _ hD.lt).trans h.gS, gM := (hk _ h.wm.lt).trans h.gM, gX := fun b hb => (hk b (OwnI.lt h.its b hb).2).trans (h.gX b hb), gC := fun b hb => (hk b (World.ownsRow.lt h.came b hb).2).trans (h.gC b hb), go := fun b hb => (hk b (OwnI.lt h.come b hb).2).trans (h.go b hb), gr := fun b hb => (hk b (OwnZ.lt h.ready b hb).2).trans (h.gr b hb), gw := ?_, bT := h.bT, bbS := h.bbS, bbW := h.bbW }, plW_add _ _ _ _, t9.size, fun b hb e => ⟨t9.block b hb (fun e2 => ?_), (hk b hb).trans e⟩⟩
  case refine_7 =>
    intro t ht
    rcases hwl t ht with rfl | ⟨h1, h5⟩
    · exact ho4
    · refine OwnZ.ts (h.wl t h1) t9 (fun b hb e => ?_)
      rw [h.gw t h1 b hb] at e
      rcases e with e | e
      · cases e
      · injection e with e; exact h5 e
  case refine_8 =>
    have l3 := TSb.down t2 h.low (fun b e => by injection e with e; rw [← e]; exact h.bbW)
    have l4 := TSb.down t3 l3 (fun b e => (OwnZ.lt ho0 b e).1)
    exact TSb.down t4 l4 (fun b e => by injection e with e; rw [← e]; exact h.bbW)
  case refine_9 =>
    intro t ht b hb
    rcases hwl t ht with rfl | ⟨h1, h5⟩
    · exact if_pos hb
    · exact (hk b (OwnZ.lt (h.wl t h1) b hb).2).trans (h.gw t h1 b hb)
  case refine_10 => rw [e] at e2; rcases e2 with k | k <;> cases k
  all_goals (rw [e] at hb; rcases hb with k | k <;> cases k)
end

end Go.Proofs.Ytdpmhhfpjpdfiaa

namespace Go.Proofs.Ytdpmhhfpjpdfiaa
open Go.ChangeShapes Go.WideShapes Go.ChangeAt Go.RowKit Go.Sort
set_option linter.unusedVariables false
set_option linter.unusedSimpArgs false

abbrev Told := Value → World → Prop
abbrev SoftTab := List (Nat × Told)

theorem tab_ne {tab : SoftTab} (hnd : (tab.map (·.1)).Nodup) {j k d1 d2 : Nat} {R1 R2 : Told} (h1 : tab[j]? = some (d1, R1)) (h2 : tab[k]? = some (d2, R2)) (hjk : j ≠ k) : d1 ≠ d2 := by
  intro e
  have e1 : (tab.map (·.1))[j]? = some d1 := by simp [h1]
  have e2 : (tab.map (·.1))[k]? = some d1 := by simp [h2, e]
  obtain ⟨hj, e1⟩ := List.getElem?_eq_some_iff.1 e1
  obtain ⟨hk, e2⟩ := List.getElem?_eq_some_iff.1 e2
  have hp := List.pairwise_iff_getElem.1 hnd
  rcases Nat.lt_or_gt_of_ne hjk with h | h
  · exact hp j k hj hk h (e1.trans e2.symm)
  · exact hp k j hk hj h (e2.trans e1.symm)

theorem count_set : ∀ (l : List Bool) (i : Nat), l[i]? = some false → (l.set i true).count false + 1 = l.count false
  | [], i, h => by simp at h
  | b :: l, 0, h => by
    obtain rfl : b = false := by simpa using h
    simp
  | b :: l, i + 1, h => by
    have := count_set l i (by simpa using h)
    rw [List.set_cons_succ, List.count_cons, List.count_cons]
    omega

end Go.Proofs.Ytdpmhhfpjpdfiaa

namespace Go.Proofs.Ytdpmhhfpjpdfiaa
open Go.ChangeShapes Go.WideShapes Go.ChangeAt Go.RowKit Go.Sort
set_option linter.unusedVariables false
set_option linter.unusedSimpArgs false

structure SoftAtR (Rel : World → World → Prop) (tab : SoftTab) (a0 a : Act) (w W : World) (listed : Array Bool) : Prop where
  rel : Rel w W
  defers : a.defers = a0.defers
  size : a.tmps.size = a0.tmps.size
  out : ∀ t, t ∉ tab.map (·.1) → a.tmps[t]? = a0.tmps[t]?
  told : ∀ (k d : Nat) (R : Told), tab[k]? = some (d, R) → listed.getD k false = true → R (a.tmps.getD d undef) W

def SoftStepR (Rel : World → World → Prop) (P : Program) (ops : Array Oper) (tab : SoftTab) (Q : Exit → Act → World → Prop) (a0 : Act) (w : World) (k : Nat) (o : Oper) : Prop :=
  ∀ a W, Rel w W → (∀ t, t ∉ tab.map (·.1) → a.tmps.getD t undef = a0.tmps.getD t undef) → (∀ e ∈ o.after.toList, Region.binds .any e = true → ∀ (d : Nat) (R : Told), tab[e.on]? = some (d, R) → R (a.tmps.getD d undef) W ∧ d < a.tmps.size) →
    ∀ (d : Nat) (R : Told), tab[k]? = some (d, R) → wpOp P ops Q k (fun a' W' => ∃ v, a' = a.put (some d) v ∧ R v W' ∧ Rel W W') a W

def doneTo (n m : Nat) : Array Bool := (List.replicate n true ++ List.replicate (m - n) false).toArray

theorem wpAny_softR {Rel : World → World → Prop} {P : Program} {ops : Array Oper} {n : Nat} {tab : SoftTab} {Q : Exit → Act → World → Prop} {a0 : Act} {w : World} {rest : List Oper}
    (htrans : ∀ a b c, Rel a b → Rel b c → Rel a c)
    (hlen : tab.length = n) (hnd : (tab.map (·.1)).Nodup) (hsz : ∀ d ∈ tab.map (·.1), d < a0.tmps.size)
    (hn : n < ops.size) (hs : Region.sinkB .any ops n = true) (hc : Region.chainB .any ops n = true)
    (hback : ∀ (k : Nat) (o : Oper), k < n → ops[k]? = some o → ∀ e ∈ o.after.toList, Region.binds .any e = true → e.on < k)
    (hmono : ∀ (k d : Nat) (R : Told), tab[k]? = some (d, R) → ∀ (v : Value) (W W' : World), R v W → Rel W W' → R v W')
    (hstep : ∀ (k : Nat) (o : Oper), k < n → ops[k]? = some o → SoftStepR Rel P ops tab Q a0 w k o)
    (hrest : ∀ j, rest[j]? = ops[n + j]?) (hrl : rest.length = ops.size - n) (hseq : Region.seqB .any ops rest.length n (doneTo n ops.size) = true)
    (hend : ∀ a W, SoftAtR Rel tab a0 a w W (doneTo n ops.size) → wpList P ops Q rest a W) :
    ∀ (f : Nat) (listed : Array Bool) (a : Act) (W : World), HeadInv .any ops n listed → (listed.toList.take n).count false = f → SoftAtR Rel tab a0 a w W listed → wpAny P .any ops Q (f + rest.length) listed a W := by
  intro f
  induction f with
  | zero =>
    intro listed a W inv hcnt hI
    have e : listed = doneTo n ops.size := by
      apply Array.ext
      · rw [inv.size]; simp [doneTo]; omega
      · intro i h1 h2
        rcases Nat.lt_or_ge i n with h | h
        · have hm : listed[i] ∈ listed.toList.take n := by
            rw [List.mem_take_iff_getElem]
            exact ⟨i, by simp; omega, by simp⟩
          have hne : listed[i] ≠ false := fun e => by
            rw [e] at hm
            have := List.count_pos_iff.2 hm
            omega
          have : listed[i] = true := by simpa using hne
          rw [this]
          simp [doneTo, h]
        · have := inv.tail i h (by rw [← inv.size]; exact h1)
          have h3 : listed[i] = false := by simpa [Array.getD, h1] using this
          rw [h3]
          simp [doneTo, List.getElem_append, Nat.not_lt.2 h]
    subst e
    rw [Nat.zero_add]
    exact wpAny_of_seq (md := .any) rest n _ a W hrest hseq (hend a W hI)
  | succ f ih =>
    intro listed a W inv hcnt hI
    have hex : ∃ i, i < n ∧ listed.getD i true = false := by
      have hm : false ∈ listed.toList.take n := List.count_pos_iff.1 (by omega)
      rw [List.mem_take_iff_getElem] at hm
      obtain ⟨i, h1, h2⟩ := hm
      have h1' : i < n ∧ i < listed.size := by simp at h1; omega
      refine ⟨i, h1'.1, ?_⟩
      simp [Array.getD, h1'.2]
      simpa using h2
    obtain ⟨i0, hi0, hun0⟩ := hex
    rw [show f + 1 + rest.length = (f + rest.length) + 1 by omega]
    refine ⟨fun hr => ?_, fun i hi => ?_⟩
    · exfalso
      have key : ∀ k, k < n → listed.getD k false = true := by
        intro k
        induction k using Nat.strongRecOn with
        | ind k ihk =>
          intro hk
          rcases hb : listed.getD k false with _ | _
          · exfalso
            have hk' : k < listed.size := by rw [inv.size]; omega
            have hk2 : k < ops.size := by omega
            have hm : k ∈ Region.ready .any ops listed := by
              rw [mem_ready]
              refine ⟨getD_in hk' hb, ops[k], by simp [hk2], fun e he hb' => ?_⟩
              have hlt := hback k ops[k] hk (by simp [hk2]) e (by simpa using he) hb'
              exact ihk e.on hlt (by omega)
            rw [hr] at hm
            cases hm
          · rfl
      have h9 := key i0 hi0
      rw [getD_both hun0] at h9
      cases h9
    · have hin : i < n := by
        rcases Nat.lt_or_ge i n with h | h
        · exact h
        · exact absurd hi (tail_waits hs hc hn inv _ i0 rfl hi0 hun0 i h)
      obtain ⟨h1, o, ho, hdep⟩ := mem_ready.1 hi
      obtain ⟨⟨d, R⟩, htab⟩ : ∃ p, tab[i]? = some p := ⟨tab[i], List.getElem?_eq_getElem (by omega)⟩
      have hdsz : d < a.tmps.size := by rw [hI.size]; exact hsz d (List.mem_map.2 ⟨(d, R), List.mem_of_getElem? htab, rfl⟩)
      have hst := hstep i o hin ho a W hI.rel (fun t ht => by simp only [Array.getD_eq_getD_getElem?, hI.out t ht]) (fun e he hb d' R' ht' =>
        ⟨hI.told e.on d' R' ht' (hdep e (by simpa using he) hb), by rw [hI.size]; exact hsz d' (List.mem_map.2 ⟨(d', R'), List.mem_of_getElem? ht', rfl⟩)⟩) d R htab
      refine wpOp_mono (fun a' W' hh => ?_) hst
      obtain ⟨v, rfl, hR, hx⟩ := hh
      have hil' : i < listed.size := by rw [inv.size]; omega
      refine ih _ _ _ (inv.set hi hin) ?_ ⟨htrans _ _ _ hI.rel hx, hI.defers, by simp only [Act.put, Array.size_setIfInBounds]; exact hI.size, ?_, ?_⟩
      · have e : (listed.toList.take n)[i]? = some false := by
          have h3 : listed[i] = false := by simpa [Array.getD, hil'] using h1
          rw [List.getElem?_take, if_pos hin]
          simp [hil', h3]
        have := count_set (listed.toList.take n) i e
        rw [Array.toList_setIfInBounds, List.take_set]
        omega
      · intro t ht
        have hne : d ≠ t := fun e => ht (e ▸ List.mem_map.2 ⟨(d, R), List.mem_of_getElem? htab, rfl⟩)
        simp only [Act.put]
        rw [Array.getElem?_setIfInBounds_ne hne]
        exact hI.out t ht
      · intro k d2 R2 ht2 hl2
        simp only [Act.put]
        by_cases hki : k = i
        · subst hki
          obtain ⟨rfl, rfl⟩ : d = d2 ∧ R = R2 := by rw [htab] at ht2; injection ht2 with e; injection e with e1 e2; exact ⟨e1, e2⟩
          simp [hdsz]
          exact hR
        · have hne : d ≠ d2 := tab_ne hnd htab ht2 (fun e => hki e.symm)
          have h3 : listed.getD k false = true := by rw [getD_set_ne false (fun e => hki e.symm)] at hl2; exact hl2
          have := hmono k d2 R2 ht2 _ _ _ (hI.told k d2 R2 ht2 h3) hx
          simp only [Array.getD_eq_getD_getElem?, Array.getElem?_setIfInBounds_ne hne]
          simp only [Array.getD_eq_getD_getElem?] at this
          exact this

def SoftAllR (Rel : World → World → Prop) (P : Program) (ops : Array Oper) (tab : SoftTab) (Q : Exit → Act → World → Prop) (a0 : Act) (w : World) : List Oper → Nat → Prop
  | [], _ => True
  | o :: r, k => SoftStepR Rel P ops tab Q a0 w k o ∧ SoftAllR Rel P ops tab Q a0 w r (k + 1)
theorem softAllR_spec {Rel : World → World → Prop} {P : Program} {ops : Array Oper} {tab : SoftTab} {Q : Exit → Act → World → Prop} {a0 : Act} {w : World} : ∀ (l : List Oper) (k : Nat), SoftAllR Rel P ops tab Q a0 w l k → ∀ (j : Nat) (o : Oper), l[j]? = some o → SoftStepR Rel P ops tab Q a0 w (k + j) o
  | [], _, _, j, o, h => by simp at h
  | x :: l, k, h, 0, o, ho => by
    obtain rfl : x = o := by simpa using ho
    exact h.1
  | x :: l, k, h, j + 1, o, ho => by
    have := softAllR_spec l (k + 1) h.2 j o (by simpa using ho)
    rwa [Nat.add_assoc, Nat.add_comm 1 j] at this
def SoftMonoR (Rel : World → World → Prop) (tab : SoftTab) : Prop := ∀ p ∈ tab, ∀ (v : Value) (W W' : World), p.2 v W → Rel W W' → p.2 v W'
def softBackN (n : Nat) (l : List Oper) : Bool := (List.range n).all fun k => match l[k]? with
  | some o => o.after.toList.all fun e => !Region.binds .any e || decide (e.on < k)
  | none => true
theorem softBackN_spec {n : Nat} {l : List Oper} (h : softBackN n l = true) : ∀ (k : Nat) (o : Oper), k < n → l[k]? = some o → ∀ e ∈ o.after.toList, Region.binds .any e = true → e.on < k := by
  intro k o hk ho e he hb
  have := List.all_eq_true.1 h k (List.mem_range.2 hk)
  simp only [ho] at this
  have := List.all_eq_true.1 this e he
  simpa [hb] using this
def softForm (n : Nat) (l : List Oper) : Bool := decide (n < l.length) && Region.sinkB .any l.toArray n && Region.chainB .any l.toArray n && softBackN n l && Region.seqB .any l.toArray (l.length - n) n (doneTo n l.length)

theorem wp_soft_tail (Rel : World → World → Prop) {P : Program} {l : List Oper} (n : Nat) (tab : SoftTab) {Q : Exit → Act → World → Prop} {a : Act} {w : World} {id : Nat} (hm : P.follows .mixedOrders = true)
    (hform : softForm n l = true) (htrans : ∀ a b c, Rel a b → Rel b c → Rel a c) (hdraw : Rel w { w with drawn := w.drawn + 1 })
    (hlen : tab.length = n) (hnd : (tab.map (·.1)).Nodup) (hsz : ∀ d ∈ tab.map (·.1), d < a.tmps.size) (hmono : SoftMonoR Rel tab)
    (hend : ∀ a' W, SoftAtR Rel tab a a' w W (doneTo n l.length) → wpList P l.toArray Q (l.drop n) a' W)
    (hstep : SoftAllR Rel P l.toArray tab Q a w (l.take n) 0) : (Code.region id l.toArray true).wp P Q a w := by
  unfold softForm at hform
  simp only [Bool.and_eq_true, decide_eq_true_eq] at hform
  obtain ⟨⟨⟨⟨hn, hs⟩, hc⟩, hb⟩, hq⟩ := hform
  have hdl : (l.drop n).length = l.length - n := by simp
  have inv0 : HeadInv .any l.toArray n (Array.replicate l.toArray.size false) :=
    ⟨by simp, fun j oj _ hl => (by rw [getD_replicate_false] at hl; cases hl), fun t _ ht => getD_in (by simpa using ht) (getD_replicate_false _ _)⟩
  refine wp_region_any hm ?_
  have := wpAny_softR (Rel := Rel) (P := P) (ops := l.toArray) (n := n) (tab := tab) (Q := Q) (a0 := a) (w := w) (rest := l.drop n) htrans hlen hnd hsz (by simpa using hn) hs hc
    (fun k o hk ho => softBackN_spec hb k o hk (by simpa using ho)) (fun k d R h v W W' => hmono (d, R) (List.mem_of_getElem? h) v W W')
    (fun k o hk ho => by
      have := softAllR_spec (l.take n) 0 hstep k o (by rw [List.getElem?_take, if_pos hk]; simpa using ho)
      rwa [Nat.zero_add] at this)
    (fun j => by simp [List.getElem?_drop]) (by simp) (by rw [hdl]; simpa using hq) (fun a' W h => hend a' W (by simpa using h)) n (Array.replicate l.toArray.size false) a { w with drawn := w.drawn + 1 } inv0
    (by
      simp
      omega) ⟨hdraw, rfl, rfl, fun _ _ => rfl, fun k d R h1 h2 => by rw [getD_replicate_false] at h2; cases h2⟩
  rw [hdl] at this
  have e : n + (l.length - n) = l.toArray.size := by simp; omega
  rw [e] at this
  exact this

theorem softR_val {Rel : World → World → Prop} {P : Program} {ops : Array Oper} {tab : SoftTab} {Q : Exit → Act → World → Prop} {a0 : Act} {w : World} {k : Nat} {o : Oper} (d : Nat) (R : Told) (hk : ops[k]? = some o) (hd : o.dst = some d) (htab : tab[k]? = some (d, R))
    (h : ∀ (a : Act) (W : World), Rel w W → (∀ t, t ∉ tab.map (·.1) → a.tmps.getD t undef = a0.tmps.getD t undef) → (∀ e ∈ o.after.toList, Region.binds .any e = true → ∀ (d : Nat) (R : Told), tab[e.on]? = some (d, R) → R (a.tmps.getD d undef) W ∧ d < a.tmps.size) →
      Region.wanted o (yielded ops a.tmps) = true ∧ ∃ v W', (execOp a.eval o).run P W = .ok (.value v) W' ∧ R v W' ∧ Rel W W') : SoftStepR Rel P ops tab Q a0 w k o := by
  intro a W hx hout hdep d' R' ht
  rw [htab] at ht
  injection ht with ht
  injection ht with e1 e2
  subst e1
  subst e2
  obtain ⟨hw, v, W', hrun, hR, hE⟩ := h a W hx hout hdep
  unfold wpOp
  simp only [hk]
  rw [if_pos hw]
  refine Or.inl ?_
  unfold Oper.wp
  rw [hrun, Oper.upon_value, hd]
  exact ⟨v, rfl, hR, hE⟩
theorem softR_call {Rel : World → World → Prop} {P : Program} {ops : Array Oper} {tab : SoftTab} {Q : Exit → Act → World → Prop} {a0 : Act} {w : World} {k : Nat} {o : Oper} (d : Nat) (R : Told) (hk : ops[k]? = some o) (hd : o.dst = some d) (htab : tab[k]? = some (d, R))
    (h : ∀ (a : Act) (W : World), Rel w W → (∀ t, t ∉ tab.map (·.1) → a.tmps.getD t undef = a0.tmps.getD t undef) → (∀ e ∈ o.after.toList, Region.binds .any e = true → ∀ (d : Nat) (R : Told), tab[e.on]? = some (d, R) → R (a.tmps.getD d undef) W ∧ d < a.tmps.size) →
      Region.wanted o (yielded ops a.tmps) = true ∧ ∃ f args, (execOp a.eval o).run P W = .ok (.enter f args) W ∧ Calls P f args W fun e W' => ∃ v, e = .returned v ∧ R v W' ∧ Rel W W') : SoftStepR Rel P ops tab Q a0 w k o := by
  intro a W hx hout hdep d' R' ht
  rw [htab] at ht
  injection ht with ht
  injection ht with e1 e2
  subst e1
  subst e2
  obtain ⟨hw, f, args, hrun, hc⟩ := h a W hx hout hdep
  unfold wpOp
  simp only [hk]
  rw [if_pos hw]
  refine Or.inl ?_
  unfold Oper.wp
  rw [hrun, Oper.upon_enter]
  refine hc.mono ?_
  rintro e W' ⟨v, rfl, hR, hE⟩
  rw [hd]
  exact ⟨v, rfl, hR, hE⟩

theorem Act.put_self (a : Act) (d : Nat) (hd : d < a.tmps.size) : a.put (some d) (a.tmps.getD d undef) = a := by
  cases a with
  | mk t df =>
    simp only [Act.put]
    congr 1
    apply Array.ext
    · simp
    · intro i h1 h2
      simp only at hd
      by_cases h : d = i
      · subst h; simp [hd]
      · rw [Array.getElem_setIfInBounds_ne _ h]
def putAll : Array Value → List (Nat × Value) → Array Value
  | t, [] => t
  | t, p :: r => putAll (t.setIfInBounds p.1 p.2) r
theorem putAll_of (t' : Array Value) : ∀ (D : List Nat) (t : Array Value), t'.size = t.size → (∀ i, i ∉ D → t'[i]? = t[i]?) → t' = putAll t (D.map fun d => (d, t'.getD d undef))
  | [], t, hs, h => by
    apply Array.ext hs
    intro i h1 h2
    have := h i (by simp)
    rw [Array.getElem?_eq_getElem h1, Array.getElem?_eq_getElem h2] at this
    exact Option.some.inj this
  | d :: D, t, hs, h => by
    refine putAll_of t' D (t.setIfInBounds d (t'.getD d undef)) (by simpa using hs) fun i hi => ?_
    by_cases hd : d = i
    · subst hd
      rcases Nat.lt_or_ge d t.size with g | g
      · have g' : d < t'.size := by omega
        simp [g, g']
      · rw [Array.getElem?_eq_none (by omega), Array.getElem?_eq_none (by simpa using g)]
    · rw [Array.getElem?_setIfInBounds_ne hd]
      exact h i (by simp only [List.mem_cons, not_or]; exact ⟨fun e => hd e.symm, hi⟩)
def ToldAll : SoftTab → List Value → World → Prop
  | [], [], _ => True
  | p :: t, v :: vs, W => p.2 v W ∧ ToldAll t vs W
  | _, _, _ => False
theorem toldAll_of {W : World} {f : Nat → Value} : ∀ (tab : SoftTab), (∀ (k d : Nat) (R : Told), tab[k]? = some (d, R) → R (f d) W) → ToldAll tab (tab.map fun p => f p.1) W
  | [], _ => trivial
  | p :: t, h => ⟨h 0 p.1 p.2 rfl, toldAll_of t fun k d R hk => h (k + 1) d R (by simpa using hk)⟩
theorem zip_told (f : Nat → Value) : ∀ (tab : SoftTab), (tab.map (·.1)).zip (tab.map fun p => f p.1) = (tab.map (·.1)).map fun d => (d, f d)
  | [] => rfl
  | p :: t => by simp only [List.map_cons, List.zip_cons_cons, zip_told f t]
theorem wp_soft_frame (Rel : World → World → Prop) {P : Program} {l : List Oper} (n : Nat) (tab : SoftTab) {Q : Exit → Act → World → Prop} {a : Act} {w : World} {id : Nat} (hm : P.follows .mixedOrders = true)
    (hform : softForm n l = true) (htrans : ∀ a b c, Rel a b → Rel b c → Rel a c) (hdraw : Rel w { w with drawn := w.drawn + 1 })
    (hlen : tab.length = n) (hnd : (tab.map (·.1)).Nodup) (hsz : ∀ d ∈ tab.map (·.1), d < a.tmps.size) (hmono : SoftMonoR Rel tab)
    (hend : ∀ (W : World) (vs : List Value), ToldAll tab vs W → Rel w W → wpList P l.toArray Q (l.drop n) ⟨putAll a.tmps ((tab.map (·.1)).zip vs), a.defers⟩ W)
    (hstep : SoftAllR Rel P l.toArray tab Q a w (l.take n) 0) : (Code.region id l.toArray true).wp P Q a w := by
  refine wp_soft_tail Rel n tab hm hform htrans hdraw hlen hnd hsz hmono (fun a' W hS => ?_) hstep
  have h1 := hend W (tab.map fun p => a'.tmps.getD p.1 undef) (toldAll_of (f := fun d => a'.tmps.getD d undef) tab fun k d R hk => hS.told k d R hk (by
    have hk' : k < n := by have := (List.getElem?_eq_some_iff.1 hk).1; omega
    simp [doneTo, hk', List.getElem?_append])) hS.rel
  rw [zip_told (fun d => a'.tmps.getD d undef), ← putAll_of a'.tmps _ a.tmps hS.size hS.out, ← hS.defers] at h1
  exact h1

end Go.Proofs.Ytdpmhhfpjpdfiaa

namespace Go.Proofs.Ytdpmhhfpjpdfiaa
open Go.ChangeShapes Go.WideShapes Go.ChangeAt Go.RowKit Go.Sort
set_option linter.unusedVariables false
set_option linter.unusedSimpArgs false

def depB (ops : Array Oper) (j i : Nat) : Bool := match ops[j]? with
  | some o => o.after.toList.any fun e => Region.binds .any e && e.on == i
  | none => false
theorem depB_spec {ops : Array Oper} {j i : Nat} (h : depB ops j i = true) : ∃ o, ops[j]? = some o ∧ ∃ e ∈ o.after.toList, Region.binds .any e = true ∧ e.on = i := by
  unfold depB at h
  split at h
  · rename_i o ho
    obtain ⟨e, he, hb⟩ := List.any_eq_true.1 h
    rw [Bool.and_eq_true, beq_iff_eq] at hb
    exact ⟨o, ho, e, he, hb.1, hb.2⟩
  · cases h
end Go.Proofs.Ytdpmhhfpjpdfiaa

namespace Go.Proofs.Ytdpmhhfpjpdfiaa
open Go.ChangeShapes Go.WideShapes Go.ChangeAt Go.RowKit Go.Sort
set_option linter.unusedVariables false
set_option linter.unusedSimpArgs false

end Go.Proofs.Ytdpmhhfpjpdfiaa

namespace Go.Proofs.Ytdpmhhfpjpdfiaa
open Go.ChangeShapes Go.WideShapes Go.ChangeAt Go.RowKit Go.Sort
set_option linter.unusedVariables false
set_option linter.unusedSimpArgs false

end Go.Proofs.Ytdpmhhfpjpdfiaa
