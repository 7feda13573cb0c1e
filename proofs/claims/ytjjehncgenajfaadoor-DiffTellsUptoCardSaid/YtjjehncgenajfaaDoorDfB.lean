/-
  Rows of characters: cut, as a text; the box of a change; no claim stands here.
-/
import Derived.Test.YtjjehncgenajfaaDoorDfM
import Derived.Test.YtjjehncgenajfaaDoorVsT
import Derived.Test.YtjjehncgenajfaaDoorChr
import Derived.Laws.Cover4
namespace Go.Proofs.YtjjehncgenajfaaDoor
open Go.ChangeShapes Go.WideShapes Go.ChangeAt Go.RowKit Go.Sort
set_option linter.unusedVariables false
attribute [local go_sem] World.cell?_alloc_some

/-- a character as a text -/
theorem encD_eq (c : Int) : Utf8.encode c = ⟨(Lib.encodeRune c).toArray⟩ := by
  have hv : Utf8.valid c = decide ((0 ≤ c ∧ c < 55296) ∨ (57344 ≤ c ∧ c ≤ 1114111)) := by
    unfold Utf8.valid
    rw [Bool.eq_iff_iff]
    simp
  have key : ∀ n : Nat, (if Utf8.valid c = true then c.toNat else Utf8.runeError) = n → Utf8.encode c = (if n < 0x80 then ⟨#[UInt8.ofNat n]⟩ else if n < 0x800 then ⟨#[UInt8.ofNat (0xC0 + n / 64), UInt8.ofNat (0x80 + n % 64)]⟩ else if n < 0x10000 then ⟨#[UInt8.ofNat (0xE0 + n / 4096), UInt8.ofNat (0x80 + n / 64 % 64), UInt8.ofNat (0x80 + n % 64)]⟩ else ⟨#[UInt8.ofNat (0xF0 + n / 262144), UInt8.ofNat (0x80 + n / 4096 % 64), UInt8.ofNat (0x80 + n / 64 % 64), UInt8.ofNat (0x80 + n % 64)]⟩) := by
    intro n hn
    subst hn
    rfl
  by_cases h1 : (0 ≤ c ∧ c < 55296) ∨ (57344 ≤ c ∧ c ≤ 1114111)
  · obtain ⟨n, rfl⟩ : ∃ n : Nat, c = (n : Int) := ⟨c.toNat, by omega⟩
    rw [key n (by rw [hv, if_pos (decide_eq_true h1), Int.toNat_natCast])]
    clear key hv
    unfold Lib.encodeRune
    by_cases a1 : n < 128
    · rw [if_pos a1, Lib.encodeRuneZ_one (by omega) (by omega), List.map_cons, List.map_nil, Int.toNat_natCast]
    · rw [if_neg a1]
      by_cases a2 : n < 2048
      · rw [if_pos a2, Lib.encodeRuneZ_two (by omega) (by omega), List.map_cons, List.map_cons, List.map_nil]
        rw [show ((192 : Int) + (n : Int) / 64).toNat = 192 + n / 64 by omega, show ((128 : Int) + (n : Int) % 64).toNat = 128 + n % 64 by omega]
      · rw [if_neg a2]
        by_cases a3 : n < 65536
        · rw [if_pos a3, Lib.encodeRuneZ_three (by omega), List.map_cons, List.map_cons, List.map_cons, List.map_nil]
          rw [show ((224 : Int) + (n : Int) / 4096).toNat = 224 + n / 4096 by omega, show ((128 : Int) + (n : Int) / 64 % 64).toNat = 128 + n / 64 % 64 by omega, show ((128 : Int) + (n : Int) % 64).toNat = 128 + n % 64 by omega]
        · rw [if_neg a3, Lib.encodeRuneZ_four (by omega) (by omega), List.map_cons, List.map_cons, List.map_cons, List.map_cons, List.map_nil]
          rw [show ((240 : Int) + (n : Int) / 262144).toNat = 240 + n / 262144 by omega, show ((128 : Int) + (n : Int) / 4096 % 64).toNat = 128 + n / 4096 % 64 by omega, show ((128 : Int) + (n : Int) / 64 % 64).toNat = 128 + n / 64 % 64 by omega, show ((128 : Int) + (n : Int) % 64).toNat = 128 + n % 64 by omega]
  · rw [key 65533 (by rw [hv, if_neg (by rw [decide_eq_false h1]; simp)]; rfl)]
    have e : Lib.encodeRuneZ c = [239, 191, 189] := by
      unfold Lib.encodeRuneZ
      rw [if_neg (by omega), if_neg (by omega), if_neg (by omega), if_neg (by omega)]
    unfold Lib.encodeRune
    rw [e]
    rfl
theorem runesD_enc (ns : List Int) : runesBytes ns = ⟨(ns.flatMap Lib.encodeRune).toArray⟩ := by
  have cat : ∀ l m : List UInt8, (⟨l.toArray⟩ : ByteArray) ++ ⟨m.toArray⟩ = ⟨(l ++ m).toArray⟩ := fun l m => by
    apply ByteArray.ext
    simp
  have key : ∀ (ns : List Int) (m : List UInt8), ns.foldl (fun r n => r ++ Utf8.encode n) (⟨m.toArray⟩ : ByteArray) = ⟨(m ++ ns.flatMap Lib.encodeRune).toArray⟩ := by
    intro ns
    induction ns with
    | nil => intro m; simp
    | cons c ns ih =>
      intro m
      rw [List.foldl_cons, encD_eq, cat, ih, List.flatMap_cons, List.append_assoc]
  have := key ns []
  rw [List.nil_append] at this
  exact this
theorem row_at {w : World} {A : Option Addr} {l : List Nat} (h : Row w A (l.map Vr)) {k : Nat} (hk : k < l.length) : ∃ b o x, A = some ⟨b, o, none⟩ ∧ l[k]? = some x ∧ w.cell? ⟨b, o + k, none⟩ = some (Vr x) := by
  obtain ⟨b, o, e, hc⟩ := h (by rw [List.length_map]; omega)
  exact ⟨b, o, l[k], e, List.getElem?_eq_getElem hk, hc k (Vr l[k]) (by rw [List.getElem?_map, List.getElem?_eq_getElem hk]; rfl)⟩
theorem rowU_take {w : World} {A : Option Addr} {l : List Nat} (h : Row w A (l.map Vr)) (k : Nat) : Row w A ((l.take k).map Vr) := by
  rw [List.map_take]; exact h.take k
theorem rowU_cut {w : World} {A : Option Addr} {l : List Nat} (h : Row w A (l.map Vr)) {n cap k : Nat} (hn : l.length = n) (hc : n ≤ cap) (hk : k ≤ n) : Row w (cutA A cap k 1) ((l.drop k).map Vr) := by
  have := Row.cut h (n := n) (cap := cap) (k := k) (s := 1) (by rw [List.length_map, hn, Nat.mul_one]) hc hk
  rw [Nat.mul_one] at this
  rw [List.map_drop]; exact this
theorem fromU (A : Option Addr) (n cap k : Nat) (h1 : k ≤ n) (z : Int) (hz : z = k) (W : World) : (Instr.slice 23 (.slice A n cap) (some (.int .i64 z)) none none).run Tryd.prog W = .ok (.slice (cutA A cap k 1) (n - k) (cap - k)) W := by
  subst hz
  obtain ⟨i, hi, hz0, hz1, hz2⟩ := info_parts infoU
  have := run_from Tryd.underlying23 hi A n cap k W (by omega) (by omega)
  rw [hz1] at this
  exact this
theorem uptoU3 (A : Option Addr) (n cap k : Nat) (h1 : k ≤ cap) (z : Int) (hz : z = k) (W : World) : (Instr.slice 23 (.slice A n cap) none (some (.int .i64 z)) none).run Tryd.prog W = .ok (.slice A k cap) W := by
  subst hz
  obtain ⟨i, hi, hz0, hz1, hz2⟩ := info_parts infoU
  exact run_upto Tryd.underlying23 hi A n cap k W (by omega) (by omega)
theorem midU (A : Option Addr) (n cap j k : Nat) (h0 : j ≤ k) (h1 : k ≤ cap) (x z : Int) (hx : x = j) (hz : z = k) (W : World) : (Instr.slice 23 (.slice A n cap) (some (.int .i64 x)) (some (.int .i64 z)) none).run Tryd.prog W = .ok (.slice (cutA A cap j 1) (k - j) (cap - j)) W := by
  subst hx
  subst hz
  obtain ⟨i, hi, hz0, hz1, hz2⟩ := info_parts infoU
  simp [Instr.slice, run_underlying Tryd.underlying23, Instr.sliceBounds, run_sliceBound, sizeOf, typeInfo, hi, cutA, hz1, h0, h1]
/-- string(runes) -/
theorem textU {w : World} {A : Option Addr} {n c : Nat} {l : List Nat} (h : Row w A (l.map Vr)) (hn : l.length = n) : (convert 23 9 (.slice A n c)).run Tryd.prog w = .ok (Vs (encU l)) w := by
  subst hn
  have e : runesBytes (l.map fun n : Nat => (n : Int)) = ⟨(encU l).toArray⟩ := by rw [runesD_enc]; congr 2; unfold encU; rw [List.flatMap_map]
  have e' : Vs (encU l) = .string (runesBytes (l.map fun n : Nat => (n : Int))) := by rw [e]
  rw [e']
  rcases Nat.eq_zero_or_pos l.length with h0 | h0
  · obtain rfl : l = [] := List.eq_nil_of_length_eq_zero h0
    cases A with
    | none =>
      rw [run_convert_runes_string w _ _ _ none _ c Tryd.underlying23 Tryd.underlying21 Tryd.underlying9]
      rfl
    | some a => exact run_convert_runes w _ _ _ a 0 c [] (Nat.le_refl _) Tryd.underlying23 Tryd.underlying21 Tryd.underlying9 (fun j hj => absurd hj (by simp))
  · obtain ⟨b, o, e, hc⟩ := h (by rw [List.length_map]; exact h0)
    subst e
    have := run_convert_runes w 23 9 21 ⟨b, o, none⟩ l.length c (l.map fun n : Nat => (n : Int)) (by simp) Tryd.underlying23 Tryd.underlying21 Tryd.underlying9 (fun j hj => by
      have hj' : j < l.length := by simpa using hj
      rw [add_at, hc j (Vr l[j]) (by rw [List.getElem?_map, List.getElem?_eq_getElem hj']; rfl)]
      simp [List.getD, List.getElem?_eq_getElem hj'])
    rw [List.take_of_length_le (by simp)] at this
    exact this

/-- a change in its box -/
def BxE (W : World) (q : Nat) (a d : Int) (s : List UInt8) : Prop := W.heap[q]? = some (.cells #[Vi a, Vi d, Vs s] 27 (0, 0))
theorem BxE.ext {W W' : World} {q : Nat} {a d : Int} {s : List UInt8} (h : BxE W q a d s) (hx : Ext W W') : BxE W' q a d s := by
  unfold BxE at h ⊢
  rw [RowKit.Below.block hx q (Array.getElem?_eq_some_iff.1 h).1]; exact h
theorem BxE.lt {W : World} {q : Nat} {a d : Int} {s : List UInt8} (h : BxE W q a d s) : q < W.heap.size := (Array.getElem?_eq_some_iff.1 h).1
theorem BxE.cells {W : World} {q : Nat} {a d : Int} {s : List UInt8} (h : BxE W q a d s) : W.cell? ⟨q, 0, none⟩ = some (Vi a) ∧ W.cell? ⟨q, 1, none⟩ = some (Vi d) ∧ W.cell? ⟨q, 2, none⟩ = some (Vs s) :=
  ⟨by rw [cell_of_row W q 0 _ _ _ h]; rfl, by rw [cell_of_row W q 1 _ _ _ h]; rfl, by rw [cell_of_row W q 2 _ _ _ h]; rfl⟩
theorem BxE.thaw {W : World} {q : Nat} {a d : Int} {s : List UInt8} (h : BxE W q a d s) (j : Nat) : W.frozen? ⟨q, j, none⟩ = false := frozen_of_row W q j _ _ h
theorem BxE.all {W : World} {q : Nat} {a d : Int} {s : List UInt8} (h : BxE W q a d s) (a' d' : Int) (s' : List UInt8) : BxE (((W.setCell ⟨q, 0, none⟩ (Vi a')).setCell ⟨q, 1, none⟩ (Vi d')).setCell ⟨q, 2, none⟩ (Vs s')) q a' d' s' := by
  have h0 : BxE (W.setCell ⟨q, 0, none⟩ (Vi a')) q a' d s := heap_setCell_same W q 0 _ _ _ h
  generalize W.setCell ⟨q, 0, none⟩ (Vi a') = W0 at *
  have h1 : BxE (W0.setCell ⟨q, 1, none⟩ (Vi d')) q a' d' s := heap_setCell_same W0 q 1 _ _ _ h0
  generalize W0.setCell ⟨q, 1, none⟩ (Vi d') = W1 at *
  exact heap_setCell_same W1 q 2 _ _ _ h1

end Go.Proofs.YtjjehncgenajfaaDoor
