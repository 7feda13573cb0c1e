/-
  Several texts of this seat in one file, each in the namespace again; no claim stands here.
-/
import Derived.Shelf.Unicode.DecodeSlow
import Derived.Lib.ValidAsc
import Derived.Shelf.Strings.BuilderRune
import Derived.Shelf.Strings.BuilderK
import Derived.Shelf.Utf8.RuneCount
import Derived.Shelf.Unicode.ValidAny
import Derived.Deep.SlicePairs
import Derived.Lay
import Derived.ChangeMaps5
import Derived.IntWalk
import Derived.Test.YtmpomammieenjaaOS
import Derived.Test.YtmpomammieenjaaLayRn
import Derived.Test.YtmpomammieenjaaOU
import Derived.Test.YtmpomammieenjaaOT
import Derived.Test.YtmpomammieenjaaOA2
import Derived.Test.YtmpomammieenjaaOF2
import Derived.Test.YtmpomammieenjaaOV
import Derived.Test.YtmpomammieenjaaOD2
namespace Go.Proofs.Ytmpomammieenjaa
open Go.ChangeShapes Go.WideShapes Go.ChangeAt Go.RowKit Go.Sort
set_option linter.unusedVariables false
set_option linter.unusedSimpArgs false

end Go.Proofs.Ytmpomammieenjaa

namespace Go.Proofs.Ytmpomammieenjaa
open Go.Shelf
set_option linter.unusedVariables false
set_option linter.unusedSimpArgs false

def renWr : Go.Shelf.Ren := ⟨fun | 168 => 25 | 240 => 49 | 242 => 50 | 276 => 68 | 278 => 69 | n => n,
  fun | 0 => 0 | 3 => 3 | 4 => 4 | 5 => 5 | 9 => 9 | 20 => 20 | 21 => 21 | 37 => 75 | 46 => 144 | 51 => 39 | 70 => 74 | 72 => 77 | 75 => 48 | 80 => 46 | 164 => 128 | n => n, fun | n => n⟩
theorem laysWr : Go.Proofs.Lays.n168 Try.prog renWr := {
  mixed := by kernel_rfl
  f168 := Try.func25.trans (congrArg some (by kernel_rfl))
  f240 := Try.func49.trans (congrArg some (by kernel_rfl))
  f242 := Try.func50.trans (congrArg some (by kernel_rfl))
  f276 := Try.func68.trans (congrArg some (by kernel_rfl))
  f278 := Try.func69.trans (congrArg some (by kernel_rfl))
  t0 := Try.underlying0
  a0 := Try.isAgg0
  z0 := Try.sizeOf0
  v0 := Try.zeroValue0
  t3 := Try.underlying3
  a3 := Try.isAgg3
  z3 := Try.sizeOf3
  v3 := Try.zeroValue3
  t4 := Try.underlying4
  a4 := Try.isAgg4
  z4 := Try.sizeOf4
  v4 := Try.zeroValue4
  t5 := Try.underlying5
  a5 := Try.isAgg5
  z5 := Try.sizeOf5
  v5 := Try.zeroValue5
  t9 := Try.underlying9
  a9 := Try.isAgg9
  z9 := Try.sizeOf9
  v9 := Try.zeroValue9
  t20 := Try.underlying20
  a20 := Try.isAgg20
  z20 := Try.sizeOf20
  v20 := Try.zeroValue20
  t21 := Try.underlying21
  a21 := Try.isAgg21
  z21 := Try.sizeOf21
  v21 := Try.zeroValue21
  t37 := Try.underlying75
  a37 := Try.isAgg75
  z37 := Try.sizeOf75
  v37 := Try.zeroValue75
  t46 := Try.underlying144
  a46 := Try.isAgg144
  z46 := Try.sizeOf144
  v46 := Try.zeroValue144
  t51 := Try.underlying39
  a51 := Try.isAgg39
  z51 := Try.sizeOf39
  v51 := Try.zeroValue39
  t70 := Try.underlying74
  a70 := Try.isAgg74
  z70 := Try.sizeOf74
  v70 := Try.zeroValue74
  t72 := Try.underlying77
  a72 := Try.isAgg77
  z72 := Try.sizeOf77
  v72 := Try.zeroValue77
  t75 := Try.underlying48
  a75 := Try.isAgg48
  z75 := Try.sizeOf48
  v75 := Try.zeroValue48
  t164 := Try.underlying128
  a164 := Try.isAgg128
  z164 := Try.sizeOf128
  v164 := Try.zeroValue128 }

theorem extraWr : Builder.Extra Try.prog renWr where
  sizeBuilder := by kernel_rfl
  liesBuilder := by kernel_rfl
  t5 := Try.underlying5
  a5 := Try.isAgg5
  z5 := Try.sizeOf5
  v5 := Try.zeroValue5
  infoByte := by kernel_rfl
  cellsByte := by kernel_rfl
  sizeByte := by kernel_rfl
  neB5 := by decide
theorem extraStr : Builder.Extra Try.prog Try.laysString_ren where
  sizeBuilder := by kernel_rfl
  liesBuilder := by kernel_rfl
  t5 := Try.underlying5
  a5 := Try.isAgg5
  z5 := Try.sizeOf5
  v5 := Try.zeroValue5
  infoByte := by kernel_rfl
  cellsByte := by kernel_rfl
  sizeByte := by kernel_rfl
  neB5 := by decide
def Bld (B b : Nat) (l : List UInt8) (w : World) : Prop := Lib.IsBuilderF 77 5 B b (Lib.byteCells l) w
theorem writeRuneO_any (B b : Nat) (l : List UInt8) (r : Int) (hr0 : -2147483648 ≤ r) (hr1 : r ≤ 2147483647) (w : World) (h : Bld B b l w) (hlen : l.length ≤ 100000) (hBw : B ≤ w.heap.size) :
    Calls Try.prog 25 #[.pointer (some ⟨b, 0, none⟩), .int .i32 r] w fun e w' => e = .returned (.tuple #[.int .i64 (Lib.runeCells r).length, .nilIface]) ∧ Bld B b (l ++ Lib.encodeRune r) w' ∧ RowKit.Below B w w' ∧ Lib.OthersKept 5 (some b) w w' := by
  refine (Any.Builder_WriteRune_k laysWr extraWr B b (Lib.byteCells l) r hr0 hr1 w h (by rw [Lib.byteCells_length]; omega) hBw).mono ?_
  rintro e w' ⟨h1, h2, h3, h4⟩
  refine ⟨h1, ?_, h3, h4⟩
  unfold Bld
  rw [Lib.byteCells_append, Lib.byteCells_encodeRune]
  exact .inr h2
theorem string_any (B b : Nat) (l : List UInt8) (w : World) (h : Bld B b l w) (hBw : B ≤ w.heap.size) :
    Calls Try.prog 26 #[.pointer (some ⟨b, 0, none⟩)] w fun e w' => e = .returned (.string ⟨l.toArray⟩) ∧ Bld B b l w' ∧ RowKit.Below B w w' := by
  refine (Any.Builder_String_any_k Try.laysString extraStr B b l w h hBw).mono ?_
  rintro e w' ⟨h1, h2, h3, _⟩
  exact ⟨h1, h2, h3⟩
end Go.Proofs.Ytmpomammieenjaa

namespace Go.Proofs.Ytmpomammieenjaa
open Go.ChangeShapes Go.WideShapes Go.ChangeAt Go.RowKit Go.Sort
set_option linter.unusedVariables false
set_option linter.unusedSimpArgs false
attribute [local go_sem] World.cell?_alloc_some

def wfIs (l : List It) : Prop := ∀ x ∈ l, wfI x
theorem wfIs.at {l : List It} (h : wfIs l) {k : Nat} {x : It} (hx : l[k]? = some x) : wfI x := h x (List.mem_of_getElem? hx)

structure ItG (w : World) (b o : Nat) (x : It) : Prop where
  c0 : ∀ d os, (grow (redrawn w d) os).cell? ⟨b, o, none⟩ = some (Vu x.c)
  c1 : ∀ d os, (grow (redrawn w d) os).cell? ⟨b, o + 1, none⟩ = some (Vu x.k)
  c2 : ∀ d os, (grow (redrawn w d) os).cell? ⟨b, o + 2, none⟩ = some (Vu x.lc)
  c3 : ∀ d os, (grow (redrawn w d) os).cell? ⟨b, o + 3, none⟩ = some (Vu x.lk)
  c4 : ∀ d os, (grow (redrawn w d) os).cell? ⟨b, o + 4, none⟩ = some (Vu x.rc)
  c5 : ∀ d os, (grow (redrawn w d) os).cell? ⟨b, o + 5, none⟩ = some (Vu x.rk)
  c6 : ∀ d os, (grow (redrawn w d) os).cell? ⟨b, o + 6, none⟩ = some (.int .i32 x.ch)
theorem ItC.regrown {w : World} {b o : Nat} {x : It} (h : ItC w b o x) : ItG w b o x := ⟨cell_regrown h.c0, cell_regrown h.c1, cell_regrown h.c2, cell_regrown h.c3, cell_regrown h.c4, cell_regrown h.c5, cell_regrown h.c6⟩

end Go.Proofs.Ytmpomammieenjaa

namespace Go.Proofs.Ytmpomammieenjaa
open Go.ChangeShapes Go.WideShapes Go.ChangeAt Go.RowKit Go.Sort
set_option linter.unusedVariables false
set_option linter.unusedSimpArgs false
attribute [local go_sem] World.cell?_alloc_some

theorem enc_eq (c : Int) : Utf8.encode c = ⟨(Lib.encodeRune c).toArray⟩ := by
  have hv : Utf8.valid c = decide ((0 ≤ c ∧ c < 55296) ∨ (57344 ≤ c ∧ c ≤ 1114111)) := by
    unfold Utf8.valid
    rw [Bool.eq_iff_iff]
    simp
  have key : ∀ n : Nat, (if Utf8.valid c = true then c.toNat else Utf8.runeError) = n → Utf8.encode c = (if n < 0x80 then ⟨#[UInt8.ofNat n]⟩ else if n < 0x800 then ⟨#[UInt8.ofNat (0xC0 + n / 64), UInt8.ofNat (0x80 + n % 64)]⟩ else if n < 0x10000 then ⟨#[UInt8.ofNat (0xE0 + n / 4096), UInt8.ofNat (0x80 + n / 64 % 64), UInt8.ofNat (0x80 + n % 64)]⟩ else ⟨#[UInt8.ofNat (0xF0 + n / 262144), UInt8.ofNat (0x80 + n / 4096 % 64), UInt8.ofNat (0x80 + n / 64 % 64), UInt8.ofNat (0x80 + n % 64)]⟩) := by
    intro n hn
    subst hn
    rfl
  by_cases h1 : (0 ≤ c ∧ c < 55296) ∨ (57344 ≤ c ∧ c ≤ 1114111)
  · obtain ⟨n, rfl⟩ : ∃ n : Nat, c = (n : Int) := ⟨c.toNat, by omega⟩
    rw [key n (by rw [hv, if_pos (decide_eq_true h1), Int.toNat_natCast])]
    clear key hv
    unfold Lib.encodeRune
    by_cases a1 : n < 128
    · rw [if_pos a1, Lib.encodeRuneZ_one (by omega) (by omega), List.map_cons, List.map_nil, Int.toNat_natCast]
    · rw [if_neg a1]
      by_cases a2 : n < 2048
      · rw [if_pos a2, Lib.encodeRuneZ_two (by omega) (by omega), List.map_cons, List.map_cons, List.map_nil]
        rw [show ((192 : Int) + (n : Int) / 64).toNat = 192 + n / 64 by omega, show ((128 : Int) + (n : Int) % 64).toNat = 128 + n % 64 by omega]
      · rw [if_neg a2]
        by_cases a3 : n < 65536
        · rw [if_pos a3, Lib.encodeRuneZ_three (by omega), List.map_cons, List.map_cons, List.map_cons, List.map_nil]
          rw [show ((224 : Int) + (n : Int) / 4096).toNat = 224 + n / 4096 by omega, show ((128 : Int) + (n : Int) / 64 % 64).toNat = 128 + n / 64 % 64 by omega, show ((128 : Int) + (n : Int) % 64).toNat = 128 + n % 64 by omega]
        · rw [if_neg a3, Lib.encodeRuneZ_four (by omega) (by omega), List.map_cons, List.map_cons, List.map_cons, List.map_cons, List.map_nil]
          rw [show ((240 : Int) + (n : Int) / 262144).toNat = 240 + n / 262144 by omega, show ((128 : Int) + (n : Int) / 4096 % 64).toNat = 128 + n / 4096 % 64 by omega, show ((128 : Int) + (n : Int) / 64 % 64).toNat = 128 + n / 64 % 64 by omega, show ((128 : Int) + (n : Int) % 64).toNat = 128 + n % 64 by omega]
  · rw [key 65533 (by rw [hv, if_neg (by rw [decide_eq_false h1]; simp)]; rfl)]
    have e : Lib.encodeRuneZ c = [239, 191, 189] := by
      unfold Lib.encodeRuneZ
      rw [if_neg (by omega), if_neg (by omega), if_neg (by omega), if_neg (by omega)]
    unfold Lib.encodeRune
    rw [e]
    rfl
end Go.Proofs.Ytmpomammieenjaa

namespace Go.Proofs.Ytmpomammieenjaa
open Go.ChangeShapes Go.WideShapes Go.ChangeAt Go.RowKit Go.Sort
set_option linter.unusedVariables false
set_option linter.unusedSimpArgs false
set_option linter.unusedSimpArgs false
attribute [local go_sem] World.cell?_alloc_some

theorem bld_alloc {B b : Nat} {l : List UInt8} {w : World} (h : Bld B b l w) (o : Obj) : Bld B b l (w.alloc o) := Lib.IsBuilderF.alloc h o
theorem bld_new (w : World) : Bld w.heap.size w.heap.size [] (w.alloc (.cells #[.pointer none, .slice none 0 0] 77)) := Lib.IsBuilderF.of (Lib.fresh_isBuilder 77 5 w)
theorem bldAt_ext {T e : TypeId} {B b : Nat} {p : Value} {bs : List Value} {W W' : World} (h : Lib.BuilderAtF T e B b p bs W) (hb : RowKit.Below W.heap.size W W') : Lib.BuilderAtF T e B b p bs W' := by
  have hlt := h.lt
  obtain ⟨hB, v, hv, hown, hne⟩ := h
  exact ⟨hB, v, (hb.block b hlt).trans hv, hown.kept (row := none) ⟨hb.os, hb.tape, hb.output, hb.size, fun k hk _ => hb.block k hk⟩ (Classical.em _), hne⟩
theorem bld_ext {B b : Nat} {l : List UInt8} {w w' : World} (h : Bld B b l w) (hx : Ext w w') : Bld B b l w' := h.elim (fun x => .inl (bldAt_ext x hx)) (fun x => .inr (bldAt_ext x hx))
theorem text_catH (l m : List UInt8) : (⟨l.toArray⟩ : ByteArray) ++ ⟨m.toArray⟩ = ⟨(l ++ m).toArray⟩ := by
  apply ByteArray.ext
  simp
theorem runes_enc (ns : List Int) : runesBytes ns = ⟨(ns.flatMap Lib.encodeRune).toArray⟩ := by
  have key : ∀ (ns : List Int) (m : List UInt8), ns.foldl (fun r n => r ++ Utf8.encode n) (⟨m.toArray⟩ : ByteArray) = ⟨(m ++ ns.flatMap Lib.encodeRune).toArray⟩ := by
    intro ns
    induction ns with
    | nil => intro m; simp
    | cons c ns ih =>
      intro m
      rw [List.foldl_cons, enc_eq, text_catH, ih, List.flatMap_cons, List.append_assoc]
  have := key ns []
  rw [List.nil_append] at this
  exact this
def bE (l : List En) : List UInt8 := (charsE l).flatMap Lib.encodeRune
theorem bE_take {l : List En} {k : Nat} {x : En} (h : l[k]? = some x) : bE (l.take (k + 1)) = bE (l.take k) ++ if x.g then [] else Lib.encodeRune x.ch := by
  unfold bE charsE
  rw [List.take_add_one, h]
  cases hg : x.g <;> simp [hg]
theorem encRu_len (c : Int) : (Lib.encodeRune c).length ≤ 4 := by
  have := encAll_len [⟨0, 0, 0, 0, 0, 0, c⟩]
  simpa [encAll] using this
theorem bE_len (l : List En) : (bE l).length ≤ 4 * l.length := by
  unfold bE
  have h1 := chars_len l
  have key : ∀ ns : List Int, (ns.flatMap Lib.encodeRune).length ≤ 4 * ns.length := by
    intro ns
    induction ns with
    | nil => simp
    | cons c ns ih => rw [List.flatMap_cons, List.length_append, List.length_cons]; have := encRu_len c; omega
  have := key (charsE l)
  omega
theorem OwnE.others {w W W' : World} {v : Value} {l : List En} {b : Nat} (h : OwnE w W v l) (hk : Lib.OthersKept 5 (some b) W W') (hne : v.ownBlock ≠ some b) : OwnE w W' v l := by
  unfold OwnE OwnG at h ⊢
  rcases h with ⟨h1, h2 | ⟨g, cap, cur, h2, h3, h4, h5⟩⟩
  · exact ⟨h1, .inl h2⟩
  · refine ⟨h1, .inr ⟨g, cap, cur, h2, h3, ?_, h5⟩⟩
    refine hk g _ h4 (fun e => hne ?_) (fun c fz e => ?_)
    · rw [h2]; exact e
    · injection e with _ e _; exact absurd e (by decide)
theorem LC.chs {F : Nat → Prop} {W : World} {y : Lv} {L : List It} {G : List I2} {t : HT} {ad : I2 → Nat} (h : LC F W y L G t ad) : ∀ x ∈ entL L G, -2147483648 ≤ x.ch ∧ x.ch ≤ 2147483647 := by
  intro x hx
  obtain ⟨a, ha, rfl⟩ := List.mem_map.1 hx
  obtain ⟨i, x, hf, hx, _⟩ := fnd_mem (((ordL_is h.nd.kn).all a).1 ha)
  have hw := h.wf x (List.mem_of_getElem? hx)
  show -2147483648 ≤ chI L a ∧ chI L a ≤ 2147483647
  rw [chI_at hf hx]
  unfold wfI at hw
  omega

set_option maxRecDepth 100000 in
set_option maxHeartbeats 4000000 in
theorem text_ls (y : Lv) (l : List En) (W : World) (hb : l.length ≤ 1000) (hch : ∀ x ∈ l, -2147483648 ≤ x.ch ∧ x.ch ≤ 2147483647)
    (hall : ∀ w', Ext W w' → Calls Try.prog 24 #[ixv (xl y)] w' fun e w2 => ∃ v, e = .returned v ∧ OwnE w' w2 v l ∧ Ext w' w2) :
    Calls Try.prog 7 #[lsv y] W fun e w' => e = .returned (.string (textE l)) ∧ Ext W w' := by
  replace hall := Lib.hid hall
  replace hch := Lib.hid hch
  obtain ⟨n, hn⟩ : ∃ n, l.length = n := ⟨_, rfl⟩
  rw [hn] at hb
  replace hn := Lib.hid hn
  have hxa : Ext W (W.alloc (lbox y)) := (Ext.refl W).alloc _
  have bn := bld_new (W.alloc (lbox y))
  have hxb : Ext (W.alloc (lbox y)) ((W.alloc (lbox y)).alloc (.cells #[.pointer none, .slice none 0 0] 77)) := (Ext.refl _).alloc _
  have hbs : (W.alloc (lbox y)).heap.size = W.heap.size + 1 := by simp
  have hsz : W.heap.size + 1 < ((W.alloc (lbox y)).alloc (.cells #[.pointer none, .slice none 0 0] 77)).heap.size := by simp
  replace hxa := Lib.hid hxa
  replace hxb := Lib.hid hxb
  replace bn := Lib.hid bn
  go_enter Try.func7, Try.ntmps7
  go_wp2_with fail
  have hcall := Lib.hid (hall.out _ (hxa.out.trans hxb.out))
  clear hall
  generalize W.alloc (lbox y) = W0 at *
  generalize W0.alloc (.cells #[.pointer none, .slice none 0 0] 77) = W1 at *
  rw [← hbs] at hsz ⊢
  replace hbs := Lib.hid hbs
  refine hcall.out.mono ?_
  rintro e w2 ⟨v, rfl, o, x2⟩
  have hob : v.ownBlock ≠ some W0.heap.size := fun e => by have := (o.lt _ e).1; omega
  obtain ⟨A, c, rfl, hc, hE⟩ := o.open
  have ho := Lib.hid (fun W (hk : Lib.OthersKept 5 (some W0.heap.size) w2 W) => (show EnS W A l by
    obtain ⟨A', c', e, _, h⟩ := (o.others hk hob).open
    injection e with e
    rw [e]
    exact h))
  rw [hn.out]
  have bn2 := Lib.hid (bld_ext bn.out x2)
  have hx2 := Lib.hid (hxb.out.trans x2)
  have hbw := x2.lt hsz
  clear bn hxb hsz hcall o hE hob x2
  go_wp2
  go_loopw [10] (fun i W => ∃ (k : Nat), k ≤ n ∧ i = Vi k ∧ Hid (Bld W0.heap.size W0.heap.size (bE (l.take k)) W) ∧ Hid (Ext W0 W) ∧ W0.heap.size < W.heap.size ∧ Hid (Lib.OthersKept 5 (some W0.heap.size) w2 W)) (fun i _ => n - (intOf i).toNat)
  case atStart => exact ⟨0, Nat.zero_le _, rfl, bn2, hx2, hbw, Lib.hid (Lib.OthersKept.refl _ _ _)⟩
  case round =>
    clear bn2 hx2 hbw
    obtain ⟨k, hk, rfl, hB, hx, hbw, hO⟩ := hrel
    by_cases hlt : k < n
    · obtain ⟨b, o, x, rfl, hp, d⟩ := (ho.out wr hO.out).at (k := k) (by rw [hn.out]; exact hlt)
      obtain ⟨c0, c1, c2, c3⟩ := d
      have he := Lib.hid (bE_take hp)
      have hl4 := bE_len (l.take k)
      rw [List.length_take] at hl4
      have hcx := hch.out x (List.mem_of_getElem? hp)
      have hi1 : (0 : Int) ≤ (k : Int) := by omega
      have hi2 : (k : Int) < (n : Int) := by omega
      have hcall := Lib.hid (fun (o : Obj) => writeRuneO_any W0.heap.size W0.heap.size (bE (l.take k)) x.ch hcx.1 hcx.2 (wr.alloc o) (bld_alloc hB.out o) (by omega) (by simp; omega))
      replace hcx := Lib.hid hcx
      clear hp hl4
      cases hg : x.g with
      | true =>
        rw [hg] at c3 he
        rw [if_pos rfl, List.append_nil] at he
        have hB2 := Lib.hid (fun o => (bld_alloc hB.out o))
        have hO2 := Lib.hid (fun o => (hO.out.alloc o))
        have hx3 := Lib.hid (fun o => hx.out.alloc o)
        clear hg hcall
        go_wp2
        go_roundw
        case rel => exact ⟨k + 1, by omega, by go_num, Lib.hid (by rw [he.out]; exact hB2.out _), hx3.out _, by simp; omega, hO2.out _⟩
        case measure => simp [intOf]; omega
      | false =>
        rw [hg] at c3 he
        rw [if_neg (by decide)] at he
        have hO2 := Lib.hid (fun o => (hO.out.alloc o))
        have hx3 := Lib.hid (fun o => hx.out.alloc o)
        clear hg
        go_wp2_with fail
        refine (hcall.out _).mono ?_
        rintro e w3 ⟨rfl, h2, h3, h4⟩
        replace h2 := Lib.hid h2
        have hx4 := Lib.hid (Below.trans (hx3.out _) h3)
        have hO4 := Lib.hid ((hO2.out _).trans h4)
        have hs4 : W0.heap.size < w3.heap.size := by have := h3.size; simp at this; omega
        clear h3 h4 hcall hx3 hO2
        go_wp2
        go_roundw
        case rel => exact ⟨k + 1, by omega, by go_num, Lib.hid (by rw [he.out]; exact h2.out), hx4, hs4, hO4⟩
        case measure => simp [intOf]; omega
    · obtain rfl : k = n := by omega
      rw [show l.take k = l from List.take_of_length_le (by rw [hn.out]; exact Nat.le_refl _)] at hB
      have hst := Lib.hid (string_any W0.heap.size W0.heap.size (bE l) wr hB.out (by omega))
      have hr := Lib.hid (show textE l = ⟨(bE l).toArray⟩ from runes_enc _)
      clear hB
      go_wp2_with fail
      refine hst.out.mono ?_
      rintro e w3 ⟨rfl, _, h3⟩
      have hx4 := Lib.hid (hxa.out.trans (Below.trans hx.out h3))
      clear h3 hst
      go_wp2
      go_ret
      exact ⟨by rw [hr.out]; rfl, hx4.out⟩
theorem LC.text {F : Nat → Prop} {W : World} {y : Lv} {L : List It} {G : List I2} {t : HT} {ad : I2 → Nat} (h : LC F W y L G t ad) (hl : L.length ≤ 1000) :
    Calls Try.prog 7 #[lsv y] W fun e w' => e = .returned (.string (textE (entL L G))) ∧ Ext W w' :=
  text_ls y _ W (by rw [h.len]; exact hl) h.chs fun w' hx => allO_ix w' _ _ (h.ext hx).ix (by rw [h.len]; exact hl)
end Go.Proofs.Ytmpomammieenjaa

namespace Go.Proofs.Ytmpomammieenjaa
open Go.ChangeShapes Go.WideShapes Go.ChangeAt Go.RowKit Go.Sort
set_option linter.unusedVariables false
set_option linter.unusedSimpArgs false
attribute [local go_sem] World.cell?_alloc_some

def BoxN (W : World) (q : Nat) (x : En) : Prop := W.heap[q]? = some (.cells #[.int .u32 x.c, .int .u32 x.k, .int .i32 x.ch, .bool x.g] 79 (0, 0))
theorem BoxN.new (W : World) (x : En) : BoxN (W.alloc (.cells #[.int .u32 x.c, .int .u32 x.k, .int .i32 x.ch, .bool x.g] 79)) W.heap.size x := heap_alloc_new W _
theorem BoxN.ext {W W' : World} {g : Nat} {x : En} (h : BoxN W g x) (hx : Ext W W') : BoxN W' g x := by
  unfold BoxN at h ⊢
  rw [RowKit.Below.block hx g (Array.getElem?_eq_some_iff.1 h).1]; exact h
theorem BoxN.lt {W : World} {g : Nat} {x : En} (h : BoxN W g x) : g < W.heap.size := (Array.getElem?_eq_some_iff.1 h).1
theorem BoxN.cells {W : World} {q : Nat} {x : En} (h : BoxN W q x) : W.cell? ⟨q, 0, none⟩ = some (Vu x.c) ∧ W.cell? ⟨q, 1, none⟩ = some (Vu x.k) ∧ W.cell? ⟨q, 2, none⟩ = some (.int .i32 x.ch) ∧ W.cell? ⟨q, 3, none⟩ = some (.bool x.g) :=
  ⟨by rw [cell_of_row W q 0 _ _ _ h]; rfl, by rw [cell_of_row W q 1 _ _ _ h]; rfl, by rw [cell_of_row W q 2 _ _ _ h]; rfl, by rw [cell_of_row W q 3 _ _ _ h]; rfl⟩
theorem BoxN.thaw {W : World} {q : Nat} {x : En} (h : BoxN W q x) (j : Nat) : W.frozen? ⟨q, j, none⟩ = false := frozen_of_row W q j _ _ h
theorem BoxN.gone {W : World} {q : Nat} {x : En} (h : BoxN W q x) (g : Bool) : BoxN (W.setCell ⟨q, 3, none⟩ (.bool g)) q { x with g := g } := heap_setCell_same W q 3 _ _ _ h
theorem BoxN.all {W : World} {q : Nat} {x : En} (h : BoxN W q x) (y : En) : BoxN ((((W.setCell ⟨q, 0, none⟩ (.int .u32 y.c)).setCell ⟨q, 1, none⟩ (.int .u32 y.k)).setCell ⟨q, 2, none⟩ (.int .i32 y.ch)).setCell ⟨q, 3, none⟩ (.bool y.g)) q y := by
  have h0 : BoxN (W.setCell ⟨q, 0, none⟩ (.int .u32 y.c)) q { x with c := y.c } := heap_setCell_same W q 0 _ _ _ h
  generalize W.setCell ⟨q, 0, none⟩ (.int .u32 y.c) = W0 at *
  have h1 : BoxN (W0.setCell ⟨q, 1, none⟩ (.int .u32 y.k)) q ⟨y.c, y.k, x.ch, x.g⟩ := heap_setCell_same W0 q 1 _ _ _ h0
  generalize W0.setCell ⟨q, 1, none⟩ (.int .u32 y.k) = W1 at *
  have h2 : BoxN (W1.setCell ⟨q, 2, none⟩ (.int .i32 y.ch)) q ⟨y.c, y.k, y.ch, x.g⟩ := heap_setCell_same W1 q 2 _ _ _ h1
  generalize W1.setCell ⟨q, 2, none⟩ (.int .i32 y.ch) = W2 at *
  exact heap_setCell_same W2 q 3 _ _ _ h2
end Go.Proofs.Ytmpomammieenjaa

namespace Go.Proofs.Ytmpomammieenjaa
open Go.ChangeShapes Go.WideShapes Go.ChangeAt Go.RowKit Go.Sort
set_option linter.unusedVariables false
set_option linter.unusedSimpArgs false
attribute [local go_sem] World.cell?_alloc_some

def wfA (c k : Int) : Prop := 0 ≤ c ∧ c ≤ 4294967295 ∧ 0 ≤ k ∧ k ≤ 4294967295
structure LsW (Ls : (Nat → Prop) → World → Value → List It → List I2 → Prop) : Prop where
  ext : ∀ {F : Nat → Prop} {W W' : World} {v : Value} {L : List It} {G : List I2}, Ls F W v L G → Ext W W' → Ls F W' v L G
  frame : ∀ {F : Nat → Prop} {W W' : World} {v : Value} {L : List It} {G : List I2}, Ls F W v L G → (∀ b, F b → W'.heap[b]? = W.heap[b]?) → Ls F W' v L G
  lt : ∀ {F : Nat → Prop} {W : World} {v : Value} {L : List It} {G : List I2} {b : Nat}, Ls F W v L G → F b → b < W.heap.size
  shape : ∀ {F : Nat → Prop} {W : World} {v : Value} {L : List It} {G : List I2}, Ls F W v L G → ∃ x : Lv, v = lsv x
  known : ∀ {F : Nat → Prop} {W : World} {v : Value} {L : List It} {G : List I2}, Ls F W v L G → knownI L = true
  avoid : ∀ {F : Nat → Prop} {W : World} {v : Value} {L : List It} {G : List I2} {q : Nat}, Ls F W v L G → BxL W q zLv → Ls (fun b => F b ∧ b ≠ q) W v L G
  zero : ∀ W : World, Ls (fun _ => False) W zeroL [] []
  add : ∀ (F : Nat → Prop) (W : World) (v : Value) (L : List It) (G : List I2) (x : It) (gone : Bool), Ls F W v L G → L.length ≤ 100 → G.length ≤ 100 → wfI x → canI L x = true →
    Calls Try.prog 11 #[v, itv x, .bool gone] W fun e w' => ∃ F' v', e = .returned (.tuple #[v', .nilIface]) ∧ Ls F' w' v' (L ++ [x]) (if gone then G ++ [(x.c, x.k)] else G) ∧ (∀ b, F' b → F b ∨ W.heap.size ≤ b) ∧ Ext W w'
  addNo : ∀ (F : Nat → Prop) (W : World) (v : Value) (L : List It) (G : List I2) (x : It) (gone : Bool), Ls F W v L G → L.length ≤ 100 → G.length ≤ 100 → wfI x → canI L x = false →
    Calls Try.prog 11 #[v, itv x, .bool gone] W fun e w' => ∃ y : Lv, e = .returned (.tuple #[lsv y, errv 1]) ∧ Ext W w'
  del : ∀ (F : Nat → Prop) (W : World) (v : Value) (L : List It) (G : List I2) (c k : Int), Ls F W v L G → L.length ≤ 100 → G.length ≤ 100 → wfA c k → hasI L (c, k) = true →
    Calls Try.prog 9 #[v, idv c k] W fun e w' => ∃ F' v', e = .returned (.tuple #[v', .nilIface]) ∧ Ls F' w' v' L (G ++ [(c, k)]) ∧ (∀ b, F' b → F b ∨ W.heap.size ≤ b) ∧ Ext W w'
  delNo : ∀ (F : Nat → Prop) (W : World) (v : Value) (L : List It) (G : List I2) (c k : Int), Ls F W v L G → L.length ≤ 100 → G.length ≤ 100 → wfA c k → hasI L (c, k) = false →
    Calls Try.prog 9 #[v, idv c k] W fun e w' => ∃ y : Lv, e = .returned (.tuple #[lsv y, errv 1]) ∧ Ext W w'
  item : ∀ (F : Nat → Prop) (W : World) (v : Value) (L : List It) (G : List I2) (c k : Int), Ls F W v L G → L.length ≤ 100 → G.length ≤ 100 → wfA c k →
    Calls Try.prog 39 #[v, idv c k] W fun e w' => e = .returned (.tuple #[itv (itmV L (c, k)), .bool (hasI L (c, k))]) ∧ Ext W w'
  text : ∀ (F : Nat → Prop) (W : World) (v : Value) (L : List It) (G : List I2), Ls F W v L G → L.length ≤ 100 → G.length ≤ 100 →
    Calls Try.prog 7 #[v] W fun e w' => e = .returned (.string (textE (entL L G))) ∧ Ext W w'
  index : ∀ (F : Nat → Prop) (W : World) (v : Value) (L : List It) (G : List I2), Ls F W v L G → L.length ≤ 100 → G.length ≤ 100 →
    Calls Try.prog 23 #[v] W fun e w' => ∃ vi, e = .returned vi ∧ Ext W w' ∧ ∀ W1, Ext w' W1 → Calls Try.prog 24 #[vi] W1 fun e w2 => ∃ A c, e = .returned (.slice A (entL L G).length c) ∧ EnS w2 A (entL L G) ∧ Ext W1 w2
  between : ∀ (F : Nat → Prop) (W : World) (v : Value) (L : List It) (G : List I2) (k : Nat), Ls F W v L G → L.length ≤ 100 → G.length ≤ 100 → k ≤ (shownE (entL L G)).length →
    Calls Try.prog 17 #[v, Vi (k : Int)] W fun e w' => e = .returned (.tuple #[idv (btwE (entL L G) k).1.1 (btwE (entL L G) k).1.2, idv (btwE (entL L G) k).2.1 (btwE (entL L G) k).2.2, .nilIface]) ∧ Ext W w'
  betweenNo : ∀ (F : Nat → Prop) (W : World) (v : Value) (L : List It) (G : List I2) (z : Int), Ls F W v L G → L.length ≤ 100 → G.length ≤ 100 → -9223372036854775808 ≤ z ∧ z ≤ 9223372036854775807 → (z < 0 ∨ ((shownE (entL L G)).length : Int) < z) →
    Calls Try.prog 17 #[v, Vi z] W fun e w' => e = .returned (.tuple #[idv 0 0, idv 0 0, errv 3]) ∧ Ext W w'
  shown : ∀ (F : Nat → Prop) (W : World) (v : Value) (L : List It) (G : List I2) (a m : Nat), Ls F W v L G → L.length ≤ 100 → G.length ≤ 100 → a + m ≤ (shownE (entL L G)).length →
    Calls Try.prog 19 #[v, Vi (a : Int), Vi (m : Int)] W fun e w' => ∃ A c, e = .returned (.tuple #[.slice A (idsE (entL L G) a m).length c, .nilIface]) ∧ OdS w' A (idsE (entL L G) a m) ∧ Ext W w'
  shownNo : ∀ (F : Nat → Prop) (W : World) (v : Value) (L : List It) (G : List I2) (a m : Int), Ls F W v L G → L.length ≤ 100 → G.length ≤ 100 → -9223372036854775808 ≤ a ∧ a ≤ 9223372036854775807 → -9223372036854775808 ≤ m ∧ m ≤ 9223372036854775807 → (a < 0 ∨ m < 0 ∨ ((shownE (entL L G)).length : Int) < a ∨ ((shownE (entL L G)).length : Int) - a < m) →
    Calls Try.prog 19 #[v, Vi a, Vi m] W fun e w' => ∃ A c, e = .returned (.tuple #[.slice A 0 c, errv 3]) ∧ Ext W w'

theorem text_none : textE (entL [] []) = ByteArray.mk #[] := by decide +kernel
theorem text_a : textE (entL [(⟨1, 0, 0, 0, 0, 0, 97⟩ : It)] []) = ByteArray.mk #[97] := by decide +kernel

set_option maxRecDepth 100000 in
set_option maxHeartbeats 4000000 in
theorem up9_any {Ls : (Nat → Prop) → World → Value → List It → List I2 → Prop} (M : LsW Ls) (w : World) : Calls Try.prog 6 #[] w fun e w' => e = .returned (.bool true) ∧ Ext w w' := by
  have hwf : wfI (⟨1, 0, 0, 0, 0, 0, 97⟩ : It) := by unfold wfI; simp
  have hadd := Lib.hid (fun W => M.add _ W zeroL [] [] ⟨1, 0, 0, 0, 0, 0, 97⟩ false (M.zero W) (by simp) (by simp) hwf (by decide))
  have htx0 := Lib.hid (fun W => M.text _ W zeroL [] [] (M.zero W) (by simp) (by simp))
  go_enter Try.func6, Try.ntmps6
  go_wp2_with fail
  refine (hadd.out _).mono ?_
  rintro e w1 ⟨F, v, rfl, hI, _, x1⟩
  obtain ⟨xv, rfl⟩ := M.shape hI
  have a0 := x1.keep (p := ⟨w.heap.size, 0, none⟩) (v := .slice none 0 0) (by simp [go_sem])
  have a1 := x1.keep (p := ⟨w.heap.size, 1, none⟩) (v := .pointer none) (by simp [go_sem])
  have a2 := x1.keep (p := ⟨w.heap.size, 2, none⟩) (v := .pointer none) (by simp [go_sem])
  have a3 := x1.keep (p := ⟨w.heap.size, 3, none⟩) (v := Vi 0) (by simp [go_sem])
  have a4 := x1.keep (p := ⟨w.heap.size, 4, none⟩) (v := Vi 0) (by simp [go_sem])
  have a5 := x1.keep (p := ⟨w.heap.size, 5, none⟩) (v := Vi 0) (by simp [go_sem])
  have a6 := x1.keep (p := ⟨w.heap.size, 6, none⟩) (v := Vq 0) (by simp [go_sem])
  have a7 := x1.keep (p := ⟨w.heap.size, 7, none⟩) (v := Vq 0) (by simp [go_sem])
  have a8 := x1.keep (p := ⟨w.heap.size, 8, none⟩) (v := .pointer none) (by simp [go_sem])
  have bi := (BoxI.newL (w.alloc (.cells #[.slice none 0 0, .pointer none, .pointer none, Vi 0, Vi 0, Vi 0, Vq 0, Vq 0, .pointer none] 33)) ⟨1, 0, 0, 0, 0, 0, 97⟩)
  rw [show (w.alloc (.cells #[.slice none 0 0, .pointer none, .pointer none, Vi 0, Vi 0, Vi 0, Vq 0, Vq 0, .pointer none] 33)).heap.size = w.heap.size + 1 by simp] at bi
  replace bi := bi.ext x1
  have xw := (((Ext.refl w).alloc (.cells #[.slice none 0 0, .pointer none, .pointer none, Vi 0, Vi 0, Vi 0, Vq 0, Vq 0, .pointer none] 33)).alloc (.cells #[.int .u32 1, .int .u32 0, .int .u32 0, .int .u32 0, .int .u32 0, .int .u32 0, .int .i32 97] 43)).trans x1
  have hI1 := Lib.hid hI
  have hno := Lib.hid (fun W (hx : Ext w1 W) => M.addNo F W (lsv xv) [⟨1, 0, 0, 0, 0, 0, 97⟩] [] ⟨1, 0, 0, 0, 0, 0, 97⟩ false (M.ext hI1.out hx) (by simp) (by simp) hwf (by decide))
  have htx1 := Lib.hid (fun W (hx : Ext w1 W) => M.text F W (lsv xv) [⟨1, 0, 0, 0, 0, 0, 97⟩] [] (M.ext hI1.out hx) (by simp) (by simp))
  have bl := BxL.new w1 xv
  have xa : Ext w1 (w1.alloc (.cells #[.slice xv.A xv.n xv.c, .pointer xv.l, .pointer xv.r, Vi xv.h, Vi xv.m, Vi xv.s, Vq xv.lo, Vq xv.hi, .pointer xv.p] 33)) := (Ext.refl _).alloc _
  have bi2 := bi.ext xa
  obtain ⟨k0, k1, k2, k3, k4, k5, k6⟩ := bi2.cells
  simp only [Nat.zero_add] at k0 k1 k2 k3 k4 k5 k6
  obtain ⟨b0, b1, b2, b3, b4, b5, b6, b7, b8⟩ := bl.cells
  replace a0 := xa.keep a0
  replace a1 := xa.keep a1
  replace a2 := xa.keep a2
  replace a3 := xa.keep a3
  replace a4 := xa.keep a4
  replace a5 := xa.keep a5
  replace a6 := xa.keep a6
  replace a7 := xa.keep a7
  replace a8 := xa.keep a8
  clear hadd hI x1 bi bi2
  go_wp2_with fail
  refine (hno.out _ xa).mono ?_
  rintro e w2 ⟨y, rfl, x2⟩
  replace a0 := x2.keep a0
  replace a1 := x2.keep a1
  replace a2 := x2.keep a2
  replace a3 := x2.keep a3
  replace a4 := x2.keep a4
  replace a5 := x2.keep a5
  replace a6 := x2.keep a6
  replace a7 := x2.keep a7
  replace a8 := x2.keep a8
  replace b0 := x2.keep b0
  replace b1 := x2.keep b1
  replace b2 := x2.keep b2
  replace b3 := x2.keep b3
  replace b4 := x2.keep b4
  replace b5 := x2.keep b5
  replace b6 := x2.keep b6
  replace b7 := x2.keep b7
  replace b8 := x2.keep b8
  have x3 := (xa.trans x2).alloc (.cells #[.slice y.A y.n y.c, .pointer y.l, .pointer y.r, Vi y.h, Vi y.m, Vi y.s, Vq y.lo, Vq y.hi, .pointer y.p] 33)
  have xy : Ext w2 (w2.alloc (.cells #[.slice y.A y.n y.c, .pointer y.l, .pointer y.r, Vi y.h, Vi y.m, Vi y.s, Vq y.lo, Vq y.hi, .pointer y.p] 33)) := (Ext.refl _).alloc _
  replace a0 := xy.keep a0
  replace a1 := xy.keep a1
  replace a2 := xy.keep a2
  replace a3 := xy.keep a3
  replace a4 := xy.keep a4
  replace a5 := xy.keep a5
  replace a6 := xy.keep a6
  replace a7 := xy.keep a7
  replace a8 := xy.keep a8
  replace b0 := xy.keep b0
  replace b1 := xy.keep b1
  replace b2 := xy.keep b2
  replace b3 := xy.keep b3
  replace b4 := xy.keep b4
  replace b5 := xy.keep b5
  replace b6 := xy.keep b6
  replace b7 := xy.keep b7
  replace b8 := xy.keep b8
  have xw3 := (xw.trans (xa.trans x2)).trans xy
  clear hno k0 k1 k2 k3 k4 k5 k6 xa x2
  rw [text_none] at htx0
  rw [text_a] at htx1
  go_wp2_with fail
  refine (htx0.out _).mono ?_
  rintro e w4 ⟨rfl, x4⟩
  replace b0 := x4.keep b0
  replace b1 := x4.keep b1
  replace b2 := x4.keep b2
  replace b3 := x4.keep b3
  replace b4 := x4.keep b4
  replace b5 := x4.keep b5
  replace b6 := x4.keep b6
  replace b7 := x4.keep b7
  replace b8 := x4.keep b8
  have hse : ∀ W : World, (binOp .eql 9 (.string ⟨#[]⟩) (.string ⟨#[]⟩)).run Try.prog W = .ok (.bool true) W := fun W => by simp [go_sem]
  go_wp2_with fail
  refine (htx1.out _ (x3.trans x4)).mono ?_
  rintro e w5 ⟨rfl, x5⟩
  have hsa : ∀ W : World, (binOp .eql 9 (.string ⟨#[97]⟩) (.string ⟨#[97]⟩)).run Try.prog W = .ok (.bool true) W := fun W => by simp [go_sem]
  go_wp2_with fail
  refine (code_any 1 _ (by omega) (by omega)).mono ?_
  rintro e w6 ⟨rfl, rfl⟩
  go_wp2
  go_ret
  exact ⟨rfl, (xw3.trans x4).trans x5⟩
end Go.Proofs.Ytmpomammieenjaa

namespace Go.Proofs.Ytmpomammieenjaa
open Go.ChangeShapes Go.WideShapes Go.ChangeAt Go.RowKit Go.Sort
set_option linter.unusedVariables false
set_option linter.unusedSimpArgs false

def Ls (F : Nat → Prop) (W : World) (v : Value) (L : List It) (G : List I2) : Prop := ∃ (y : Lv) (t : HT) (ad : I2 → Nat), v = lsv y ∧ LC F W y L G t ad
theorem ls_w : LsW Ls where
  ext := by
    rintro F W W' v L G ⟨y, t, ad, rfl, h⟩ hx
    exact ⟨y, t, ad, rfl, h.ext hx⟩
  frame := by
    rintro F W W' v L G ⟨y, t, ad, rfl, h⟩ hx
    exact ⟨y, t, ad, rfl, h.frame hx⟩
  lt := by
    rintro F W v L G b ⟨y, t, ad, rfl, h⟩ hb
    exact h.lt b hb
  shape := by
    rintro F W v L G ⟨y, t, ad, rfl, h⟩
    exact ⟨y, rfl⟩
  known := by
    rintro F W v L G ⟨y, t, ad, rfl, h⟩
    exact h.nd.kn
  avoid := by
    rintro F W v L G q ⟨y, t, ad, rfl, h⟩ hq
    exact ⟨y, t, ad, rfl, h.avoidL hq⟩
  zero := fun W => ⟨zLv, .nil, fun _ => 0, rfl, ⟨⟨.leaf [], ⟨none, 0, 0, none, none, 0, 0, 0, 0, 0⟩, rfl, rfl, .inl rfl, rfl, rfl, rfl, rfl, rfl, ⟨rfl, rfl, none, 0, rfl, Nat.le_refl _, EnS.nil _ _, fun h => absurd h (by simp)⟩, fun b hb => hb.elim⟩, rfl, ⟨rfl, fun x hx => (List.not_mem_nil hx).elim, fun a b ha => by cases ha⟩, List.Pairwise.nil, fun a => by simp [hin, hasI], fun g hg => (List.not_mem_nil hg).elim, fun x hx => (List.not_mem_nil hx).elim, fun b hb => hb.elim, rfl⟩⟩
  add := by
    rintro F W v L G x gone ⟨y, t, ad, rfl, h⟩ hl hg hwf hc
    refine (h.addIs (by omega) x gone hwf hc).mono ?_
    rintro e w' ⟨F', z, t2, ad2, rfl, h1, h2, h3⟩
    exact ⟨F', lsv z, rfl, ⟨z, t2, ad2, rfl, h1⟩, h2, h3⟩
  addNo := by
    rintro F W v L G x gone ⟨y, t, ad, rfl, h⟩ hl hg hwf hc
    exact h.addNo x gone hc
  del := by
    rintro F W v L G c k ⟨y, t, ad, rfl, h⟩ hl hg hwf hc
    refine (h.del (by omega) c k hc).mono ?_
    rintro e w' ⟨F', z, rfl, h1, h2, h3⟩
    exact ⟨F', lsv z, rfl, ⟨z, t, ad, rfl, h1⟩, h2, h3⟩
  delNo := by
    rintro F W v L G c k ⟨y, t, ad, rfl, h⟩ hl hg hwf hc
    exact h.delNo (by omega) c k hc
  item := by
    rintro F W v L G c k ⟨y, t, ad, rfl, h⟩ hl hg hwf
    exact h.item c k
  text := by
    rintro F W v L G ⟨y, t, ad, rfl, h⟩ hl hg
    exact h.text (by omega)
  index := by
    rintro F W v L G ⟨y, t, ad, rfl, h⟩ hl hg
    refine (index_ls W y).mono ?_
    rintro e w' ⟨rfl, x1⟩
    exact ⟨_, rfl, x1, fun W1 hx => all_ix W1 _ _ (h.ext (x1.trans hx)).ix (by rw [h.len]; omega)⟩
  between := by
    rintro F W v L G k ⟨y, t, ad, rfl, h⟩ hl hg hk
    exact h.between (by omega) k hk
  betweenNo := by
    rintro F W v L G z ⟨y, t, ad, rfl, h⟩ hl hg hz hno
    exact h.betweenNo (by omega) z hz hno
  shown := by
    rintro F W v L G a m ⟨y, t, ad, rfl, h⟩ hl hg ham
    exact h.shownIs (by omega) a m ham
  shownNo := by
    rintro F W v L G a m ⟨y, t, ad, rfl, h⟩ hl hg ha hm hno
    exact h.shownNo (by omega) a m ha hm hno
end Go.Proofs.Ytmpomammieenjaa

namespace Go.Proofs.Ytmpomammieenjaa
open Go.ChangeShapes Go.WideShapes Go.ChangeAt Go.RowKit Go.Sort
set_option linter.unusedVariables false
set_option linter.unusedSimpArgs false
attribute [local go_sem] World.cell?_alloc_some

end Go.Proofs.Ytmpomammieenjaa

namespace Go.Proofs.Ytmpomammieenjaa
open Go.ChangeShapes Go.WideShapes Go.ChangeAt Go.RowKit Go.Sort
set_option linter.unusedVariables false
set_option linter.unusedSimpArgs false

instance : Inhabited It := ⟨⟨0, 0, 0, 0, 0, 0, 0⟩⟩
instance : Inhabited Rn := ⟨⟨0, 0, 0, 0, 0, 0, []⟩⟩
theorem bounds_i32 {a : Int} (h : (Lit.int .i32 a).wf = true) : -2147483648 ≤ a ∧ a ≤ 2147483647 := by
  simpa [Lit.wf, IntKind.min, IntKind.max, IntKind.signed, IntKind.bits] using h
theorem list7 {α : Type} {l : List α} (h : l.length = 7) : ∃ a b c d e f g, l = [a, b, c, d, e, f, g] := by
  match l, h with
  | [a, b, c, d, e, f, g], _ => exact ⟨a, b, c, d, e, f, g, rfl⟩
theorem list4 {α : Type} {l : List α} (h : l.length = 4) : ∃ a b c d, l = [a, b, c, d] := by
  match l, h with
  | [a, b, c, d], _ => exact ⟨a, b, c, d, rfl⟩

set_option maxRecDepth 100000 in
theorem item_cells {H : Type} {enc : TypeId × Value → H} {W : World} {base : Nat} {sp : Nat → Bool} {hd : Bool} (fuel : Nat) (cs : List Value) (x : DataW H × List MemPlace) (hl : cs.length = 7) (h : DataW.trod enc Try.prog W base sp hd fuel 43 cs = some x) :
    ∃ q, wfI q ∧ encI q = cs := by
  obtain ⟨v0, v1, v2, v3, v4, v5, v6, rfl⟩ := list7 hl
  obtain ⟨xs, k, hk, hxy, _, hxl, hfd⟩ := DataW.trod_struct Try.underlying43 h
  obtain ⟨y0, y1, y2, y3, rfl⟩ := list4 hxl
  have g0 := hfd 0 _ rfl
  have g1 := hfd 1 _ rfl
  have g2 := hfd 2 _ rfl
  have g3 := hfd 3 _ rfl
  have cu : Try.prog.cellsOf 21 = 1 := by kernel_rfl
  have ci : Try.prog.cellsOf 41 = 2 := by kernel_rfl
  simp [cu, ci] at g0 g1 g2 g3
  obtain ⟨a, b, rfl, rfl, a1, a2, b1, b2⟩ := id_cells g0
  obtain ⟨c, d, rfl, rfl, c1, c2, d1, d2⟩ := id_cells g1
  obtain ⟨e, f, rfl, rfl, e1, e2, f1, f2⟩ := id_cells g2
  obtain ⟨z, t0, _, wz⟩ := DataW.trod_int Try.underlying21 g3
  simp at t0
  subst t0
  have bz := bounds_i32 wz
  exact ⟨⟨a, b, c, d, e, f, z⟩, ⟨a1, a2, b1, b2, c1, c2, d1, d2, e1, e2, f1, f2, bz.1, bz.2⟩, rfl⟩
set_option maxRecDepth 100000 in
theorem items_open {H : Type} {enc : TypeId × Value → H} {W : World} {base b0 : Nat} {sp : Nat → Bool} {hd : Bool} {r : Reach} {v : Value} {d : DataW H} {p : List MemPlace} (hv : Value.okWide Try.prog W r b0 35 v) (h : DataW.Trod enc Try.prog W base sp hd 35 v d p) :
    ∃ (A : Option Addr) (n cap : Nat) (l : List It), v = .slice A n cap ∧ l.length = n ∧ n ≤ cap ∧ n ≤ maxLen ∧ ItS W A l ∧ wfIs l :=
  structs_open encI_len (by omega) Try.underlying35 (by kernel_rfl) item_cells hv h
end Go.Proofs.Ytmpomammieenjaa

namespace Go.Proofs.Ytmpomammieenjaa
open Go.ChangeShapes Go.WideShapes Go.ChangeAt Go.RowKit Go.Sort
set_option linter.unusedVariables false
set_option linter.unusedSimpArgs false

instance : Inhabited En := ⟨⟨0, 0, 0, false⟩⟩
structure Dd where
  what : Int
  at' : Int
  e : En
def encD (x : Dd) : List Value := [Vi x.what, Vi x.at', Vu x.e.c, Vu x.e.k, .int .i32 x.e.ch, .bool x.e.g]
theorem encD_len (p : Dd) : (encD p).length = 6 := rfl
instance : Inhabited Dd := ⟨⟨0, 0, default⟩⟩
def DdS (w : World) (A : Option Addr) (l : List Dd) : Prop := Row w A (flat encD l)
theorem DdS.ext {w w' : World} {A : Option Addr} {l : List Dd} (h : DdS w A l) (hx : Ext w w') : DdS w' A l := Row.ext h hx
theorem DdS.at {w : World} {A : Option Addr} {l : List Dd} (h : DdS w A l) {k : Nat} (hk : k < l.length) : ∃ b o x, A = some ⟨b, o, none⟩ ∧ l[k]? = some x ∧ w.cell? ⟨b, o + k * 6, none⟩ = some (Vi x.what) ∧ w.cell? ⟨b, o + k * 6 + 1, none⟩ = some (Vi x.at') ∧
    w.cell? ⟨b, o + k * 6 + 2, none⟩ = some (Vu x.e.c) ∧ w.cell? ⟨b, o + k * 6 + 3, none⟩ = some (Vu x.e.k) ∧ w.cell? ⟨b, o + k * 6 + 4, none⟩ = some (.int .i32 x.e.ch) ∧ w.cell? ⟨b, o + k * 6 + 5, none⟩ = some (.bool x.e.g) := by
  obtain ⟨x, hp⟩ : ∃ p, l[k]? = some p := ⟨l[k], List.getElem?_eq_getElem hk⟩
  obtain ⟨b, o, e, hc⟩ := Row.at h encD_len hp (by omega)
  exact ⟨b, o, x, e, hp, hc 0 _ rfl, hc 1 _ rfl, hc 2 _ rfl, hc 3 _ rfl, hc 4 _ rfl, hc 5 _ rfl⟩

end Go.Proofs.Ytmpomammieenjaa

namespace Go.Proofs.Ytmpomammieenjaa
open Go.ChangeShapes Go.WideShapes Go.ChangeAt Go.RowKit Go.Sort
set_option linter.unusedVariables false
set_option linter.unusedSimpArgs false

structure De where
  what : Int
  i : It
  g : Bool
def encDe (x : De) : List Value := [Vi x.what, Vu x.i.c, Vu x.i.k, Vu x.i.lc, Vu x.i.lk, Vu x.i.rc, Vu x.i.rk, .int .i32 x.i.ch, .bool x.g]
theorem encDe_len (p : De) : (encDe p).length = 9 := rfl
instance : Inhabited De := ⟨⟨0, default, false⟩⟩
def DeS (w : World) (A : Option Addr) (l : List De) : Prop := Row w A (flat encDe l)
theorem DeS.ext {w w' : World} {A : Option Addr} {l : List De} (h : DeS w A l) (hx : Ext w w') : DeS w' A l := Row.ext h hx
structure DeC (w : World) (b o : Nat) (x : De) : Prop where
  c0 : w.cell? ⟨b, o, none⟩ = some (Vi x.what)
  c1 : w.cell? ⟨b, o + 1, none⟩ = some (Vu x.i.c)
  c2 : w.cell? ⟨b, o + 2, none⟩ = some (Vu x.i.k)
  c3 : w.cell? ⟨b, o + 3, none⟩ = some (Vu x.i.lc)
  c4 : w.cell? ⟨b, o + 4, none⟩ = some (Vu x.i.lk)
  c5 : w.cell? ⟨b, o + 5, none⟩ = some (Vu x.i.rc)
  c6 : w.cell? ⟨b, o + 6, none⟩ = some (Vu x.i.rk)
  c7 : w.cell? ⟨b, o + 7, none⟩ = some (.int .i32 x.i.ch)
  c8 : w.cell? ⟨b, o + 8, none⟩ = some (.bool x.g)
theorem DeS.at {w : World} {A : Option Addr} {l : List De} (h : DeS w A l) {k : Nat} (hk : k < l.length) : ∃ b o x, A = some ⟨b, o, none⟩ ∧ l[k]? = some x ∧ DeC w b (o + k * 9) x := by
  obtain ⟨x, hp⟩ : ∃ p, l[k]? = some p := ⟨l[k], List.getElem?_eq_getElem hk⟩
  obtain ⟨b, o, e, hc⟩ := Row.at h encDe_len hp (by omega)
  exact ⟨b, o, x, e, hp, hc 0 _ rfl, hc 1 _ rfl, hc 2 _ rfl, hc 3 _ rfl, hc 4 _ rfl, hc 5 _ rfl, hc 6 _ rfl, hc 7 _ rfl, hc 8 _ rfl⟩
def BxD (W : World) (q : Nat) (x : De) : Prop := W.heap[q]? = some (.cells #[.int .i64 x.what, .int .u32 x.i.c, .int .u32 x.i.k, .int .u32 x.i.lc, .int .u32 x.i.lk, .int .u32 x.i.rc, .int .u32 x.i.rk, .int .i32 x.i.ch, .bool x.g] 45 (0, 0))
theorem BxD.new (W : World) (x : De) : BxD (W.alloc (.cells #[.int .i64 x.what, .int .u32 x.i.c, .int .u32 x.i.k, .int .u32 x.i.lc, .int .u32 x.i.lk, .int .u32 x.i.rc, .int .u32 x.i.rk, .int .i32 x.i.ch, .bool x.g] 45)) W.heap.size x := heap_alloc_new W _
theorem BxD.lt {W : World} {q : Nat} {x : De} (h : BxD W q x) : q < W.heap.size := (Array.getElem?_eq_some_iff.1 h).1
theorem BxD.ext {W W' : World} {q : Nat} {x : De} (h : BxD W q x) (hx : Ext W W') : BxD W' q x := (RowKit.Below.block hx q h.lt).trans h
theorem BxD.cells {W : World} {q : Nat} {x : De} (h : BxD W q x) : W.cell? ⟨q, 0, none⟩ = some (Vi x.what) ∧ W.cell? ⟨q, 1, none⟩ = some (Vu x.i.c) ∧ W.cell? ⟨q, 2, none⟩ = some (Vu x.i.k) ∧ W.cell? ⟨q, 3, none⟩ = some (Vu x.i.lc) ∧ W.cell? ⟨q, 4, none⟩ = some (Vu x.i.lk) ∧
    W.cell? ⟨q, 5, none⟩ = some (Vu x.i.rc) ∧ W.cell? ⟨q, 6, none⟩ = some (Vu x.i.rk) ∧ W.cell? ⟨q, 7, none⟩ = some (.int .i32 x.i.ch) ∧ W.cell? ⟨q, 8, none⟩ = some (.bool x.g) :=
  ⟨cell_of_row W q 0 _ _ _ h, cell_of_row W q 1 _ _ _ h, cell_of_row W q 2 _ _ _ h, cell_of_row W q 3 _ _ _ h, cell_of_row W q 4 _ _ _ h, cell_of_row W q 5 _ _ _ h, cell_of_row W q 6 _ _ _ h, cell_of_row W q 7 _ _ _ h, cell_of_row W q 8 _ _ _ h⟩
end Go.Proofs.Ytmpomammieenjaa

namespace Go.Proofs.Ytmpomammieenjaa
open Go.ChangeShapes Go.WideShapes Go.ChangeAt Go.RowKit Go.Sort
set_option linter.unusedVariables false
set_option linter.unusedSimpArgs false

theorem pick8_any (n : Int) (k : Nat) (w : World) (hk : 0 < k) (hk2 : k ≤ 3000) : Calls Try.prog 8 #[Vi n, Vi k] w fun e w' => (∃ r : Nat, r < k ∧ e = .returned (Vi r)) ∧ w = w' := by
  have h1 : Int.tmod n k < k := Int.tmod_lt_of_pos n (by omega)
  have h2 : -(k : Int) < Int.tmod n k := Int.lt_tmod_of_pos n (by omega)
  have h3 : ((k : Int) == 0) = false := by rw [beq_eq_false_iff_ne]; omega
  by_cases hneg : Int.tmod n k < 0
  · go_enter Try.func8, Try.ntmps8
    go_wp2
    go_ret
    exact ⟨⟨(Int.tmod n k + k).toNat, by omega, ret_i64 (by omega)⟩, rfl⟩
  · go_enter Try.func8, Try.ntmps8
    go_wp2
    go_ret
    exact ⟨⟨(Int.tmod n k).toNat, by omega, ret_i64 (by omega)⟩, rfl⟩

end Go.Proofs.Ytmpomammieenjaa
