/-
  The head of layer 3's statements, and what opens their arguments; no claim stands here.
-/
import Derived.Test.YtiacfkipkbjmjaaRngJoin
import Derived.Test.YtiacfkipkbjmjaaRngRef
import Derived.Test.YtiacfkipkbjmjaaRngSet
import Derived.Deep.SlicePairs
namespace Go.Proofs.Ytiacfkipkbjmjaa
open Go.ChangeShapes Go.WideShapes Go.ChangeAt Go.RowKit Go.Sort
set_option linter.unusedVariables false
attribute [local go_sem] World.cell?_alloc_some

theorem wfS_cons {x y z : Int} {l : List (Int × Int × Int)} (h : 0 ≤ x ∧ x ≤ 4294967295 ∧ 0 ≤ y ∧ y ≤ 4294967295 ∧ 0 ≤ z ∧ z ≤ 4294967295) (hl : wfS l) : wfS ((x, y, z) :: l) := by
  intro p hp
  rcases List.mem_cons.1 hp with e | e
  · subst e; exact h
  · exact hl p e
theorem wfS_nil : wfS [] := by intro p hp; cases hp

set_option maxHeartbeats 1000000 in
/-- the document's example -/
theorem up3_any (w : World) : Calls Try.prog 5 #[] w fun e w' => e = .returned (.bool true) ∧ Ext w w' := by
  have s1 : SpS (w.alloc (.cells #[.int .u32 1, .int .u32 0, .int .u32 2, .int .u32 1, .int .u32 2, .int .u32 5] 36)) (some ⟨w.heap.size, 0, none⟩) [(1, 0, 2), (1, 2, 5)] := Row.new w #[.int .u32 1, .int .u32 0, .int .u32 2, .int .u32 1, .int .u32 2, .int .u32 5] 36
  have h1 := of_any _ 2 2 [(1, 0, 2), (1, 2, 5)] _ s1 rfl (wfS_cons (by omega) (wfS_cons (by omega) wfS_nil)) (by omega)
  have e1 : setOfS [(1, 0, 2), (1, 2, 5)] = [(1, 0, 5)] := by decide
  rw [e1] at h1
  replace h1 := Lib.hid h1
  clear e1 s1
  have hwf : wfS [(1, 0, 5)] := wfS_cons (by omega) wfS_nil
  have hmay : maySp zS [(1, 0, 5)] = true := by decide
  replace hwf := Lib.hid hwf
  replace hmay := Lib.hid hmay
  go_enter Try.func5, Try.ntmps5
  go_wp2_with fail
  refine h1.out.mono ?_
  rintro e w1 ⟨A, n, c, rfl, hn, hnc, hv, x1⟩
  obtain rfl : n = 1 := hn.symm
  replace hv := Lib.hid hv
  replace x1 := ((Ext.refl w).alloc _).trans x1
  go_wp2_with fail
  refine (sameS_any A _ 1 c 1 [(1, 0, 5)] _ (hv.out.ext ((Ext.refl _).alloc _)) (SpS.new w1 1 0 5) rfl (by omega)).mono ?_
  rintro e w2 ⟨rfl, x2⟩
  have k2 := ((Ext.refl w1).alloc _).trans x2
  have hv2 := Lib.hid (hv.out.ext k2)
  go_wp2_with fail
  refine (mayR_any A 1 c [(1, 0, 5)] w2 hv2.out rfl hwf.out (by omega)).mono ?_
  rintro e w3 ⟨rfl, x3⟩
  rw [hmay.out]
  have hv3 := Lib.hid (hv2.out.ext x3)
  go_wp2_with fail
  refine (has_any A 1 c [(1, 0, 5)] 1 4 w3 hv3.out rfl hmay.out (by omega)).mono ?_
  rintro e w4 ⟨rfl, x4⟩
  rw [show memS [(1, 0, 5)] 1 4 = true by decide]
  have hv4 := Lib.hid (hv3.out.ext x4)
  go_wp2_with fail
  refine (count_any A 1 c [(1, 0, 5)] w4 hv4.out rfl hwf.out hmay.out (by omega)).mono ?_
  rintro e w5 ⟨rfl, x5⟩
  rw [show cntS [(1, 0, 5)] = 5 by decide]
  go_wp2
  go_ret
  exact ⟨rfl, (((x1.trans k2).trans x3).trans x4).trans x5⟩

/-- a slice of spans, opened -/
theorem spans_open {H : Type} {enc : TypeId × Value → H} {W : World} {base b0 : Nat} {sp : Nat → Bool} {hd : Bool} {r : Reach} {v : Value} {d : DataW H} {p : List MemPlace} (hv : Value.okWide Try.prog W r b0 22 v) (h : DataW.Trod enc Try.prog W base sp hd 22 v d p) :
    ∃ (A : Option Addr) (n cap : Nat) (l : List (Int × Int × Int)), v = .slice A n cap ∧ l.length = n ∧ n ≤ cap ∧ n ≤ maxLen ∧ SpS W A l ∧ wfS l := by
  obtain ⟨a, len, cap, rfl⟩ := okWide_slice Try.underlying22 hv
  obtain ⟨fuel, hf⟩ := h
  have hf' : DataW.trod enc Try.prog W base sp hd fuel 22 [.slice a len cap] = some (d, p) := hf
  have ce : Try.prog.cellsOf 36 = 3 := by kernel_rfl
  rcases Go.Deep.open_slice Try.underlying22 hf' with ⟨e, _⟩ | ⟨a', len', cap', m, n, D, Pl, e, _, hl, hm, hmm, _, hi⟩
  · injection e with e
    injection e with e1 e2 e3
    subst e1
    subst e2
    subst e3
    exact ⟨_, _, _, [], rfl, rfl, Nat.le_refl _, by omega, SpS.nil _ _, wfS_nil⟩
  · injection e with e
    injection e with e1 e2 e3
    subst e1
    subst e2
    subst e3
    have hml : len ≤ m := by rw [hmm]; split <;> omega
    have hcell : ∀ i, i < len → ∃ q : Int × Int × Int, (0 ≤ q.1 ∧ q.1 ≤ 4294967295 ∧ 0 ≤ q.2.1 ∧ q.2.1 ≤ 4294967295 ∧ 0 ≤ q.2.2 ∧ q.2.2 ≤ 4294967295) ∧ ∀ j u, (encS q)[j]? = some u → W.cell? (a'.add (i * 3 + j)) = some u := by
      intro i hil
      obtain ⟨cs', h1, h2⟩ := hi i (by omega)
      rw [ce] at h1
      obtain ⟨_, hlen, hc⟩ := World.cells?_some h1
      obtain ⟨xs, k, hk, hxy, _, hxl, hfd⟩ := DataW.trod_struct Try.underlying36 h2
      match xs, hxl, cs', hlen with
      | [y0, y1, y2], _, [v0, v1, v2], _ =>
        have g0 := hfd 0 _ rfl
        have g1 := hfd 1 _ rfl
        have g2 := hfd 2 _ rfl
        have cu : Try.prog.cellsOf 23 = 1 := by kernel_rfl
        simp [cu] at g0 g1 g2
        obtain ⟨x, t0, _, wx⟩ := DataW.trod_int Try.underlying23 g0
        obtain ⟨y, t1, _, wy⟩ := DataW.trod_int Try.underlying23 g1
        obtain ⟨z, t2, _, wz⟩ := DataW.trod_int Try.underlying23 g2
        simp at t0 t1 t2
        subst t0
        subst t1
        subst t2
        have bx := bounds_u32 wx
        have bY := bounds_u32 wy
        have bz := bounds_u32 wz
        refine ⟨(x, y, z), ⟨bx.1, bx.2, bY.1, bY.2, bz.1, bz.2⟩, fun j u hu => ?_⟩
        have hj : j < 3 := by
          rcases Nat.lt_or_ge j 3 with g | g
          · exact g
          · rw [List.getElem?_eq_none (by rw [encS_len]; exact g)] at hu; cases hu
        have e0 := hc j hj
        rw [Go.Deep.add_add] at e0
        rw [e0]
        match j, hj with
        | 0, _ => simpa [encS] using hu
        | 1, _ => simpa [encS] using hu
        | 2, _ => simpa [encS] using hu
    obtain ⟨q, hq⟩ := Go.Deep.choose_lt hcell
    refine ⟨some a', len, cap, (List.range len).map q, rfl, by simp, hl, by omega, ?_, ?_⟩
    · intro h0
      have hlen : 0 < len := by
        rw [flat_len encS_len] at h0
        simp at h0
        omega
      have g0 := (hq 0 hlen).2 0 _ rfl
      obtain ⟨b, o, spot⟩ := a'
      have hspot : spot = none := by simpa [Addr.add] using World.cell?_spot g0
      subst hspot
      refine ⟨b, o, rfl, fun j u hu => ?_⟩
      have hj : j < len * 3 := by
        rcases Nat.lt_or_ge j (len * 3) with k | k
        · exact k
        · rw [List.getElem?_eq_none (by rw [flat_len encS_len]; simpa using k)] at hu; cases hu
      have hget : ((List.range len).map q)[j / 3]? = some (q (j / 3)) := by
        rw [List.getElem?_map, List.getElem?_range (by omega)]; rfl
      have ej : j = j / 3 * 3 + j % 3 := by omega
      rw [ej, flat_at encS_len hget (by omega)] at hu
      have := (hq (j / 3) (by omega)).2 (j % 3) u hu
      rw [add_at] at this
      rw [ej]; exact this
    · intro p hp
      obtain ⟨i, hil, rfl⟩ := List.mem_map.1 hp
      exact (hq i (List.mem_range.1 hil)).1

end Go.Proofs.Ytiacfkipkbjmjaa
