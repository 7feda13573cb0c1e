/-
  Contracts of what gets texts: wire's and the reference's; no claim stands here.
-/
import Derived.Test.YtfdbcekdbffibaaDoorVal
import Derived.Test.YtfdbcekdbffibaaDoorWirGet
import Derived.Test.YtfdbcekdbffibaaDoorChr
namespace Go.Proofs.YtfdbcekdbffibaaDoor
open Go.ChangeShapes Go.WideShapes Go.ChangeAt Go.RowKit Go.Sort
set_option linter.unusedVariables false

/-- a text of bytes -/
abbrev Vt (l : List UInt8) : Value := .string ⟨l.toArray⟩
/-- what GetText answers -/
def getTRet (r : Option (List UInt8 × Nat)) : Value := match r with
  | none => .tuple #[Vt [], Vi 0, errM]
  | some (s, n) => .tuple #[Vt s, Vi n, .nilIface]
def getTRefRet (r : Option (List UInt8 × Nat)) : Value := match r with
  | none => .tuple #[Vt [], Vi 0, .bool false]
  | some (s, n) => .tuple #[Vt s, Vi n, .bool true]

theorem getB_size {l : List UInt8} {p : Int} {z k : Nat} (h : getB l p = some (z, k)) : 0 ≤ p ∧ p.toNat + k ≤ l.length ∧ z < 4294967296 ∧ 0 < k ∧ k ≤ 5 := by
  by_cases hp : p < 0
  · rw [getB_out (.inl hp)] at h; cases h
  · obtain ⟨q, rfl⟩ : ∃ q : Nat, p = q := ⟨p.toNat, by omega⟩
    have := getB_back h
    omega

set_option maxHeartbeats 1000000 in
theorem getText_none (A : Option Addr) (n c : Nat) (l : List UInt8) (p : Int) (w : World) (hb : Bys w A l) (hl : l.length = n) (hc : n ≤ c) (hn : n ≤ 30000) (hg : getB l p = none) :
    Calls Tryd.prog 8 #[.slice A n c, Vi p] w fun e w' => e = .returned (getTRet none) ∧ Ext w w' := by
  have hcall := get_any A n c l p w hb hl hc hn
  rw [hg] at hcall
  replace hcall := Lib.hid hcall
  clear hb hl hg
  go_enter Tryd.func8, Tryd.ntmps8
  go_wp2_with fail
  refine hcall.out.mono ?_
  rintro e w1 ⟨rfl, x1⟩
  simp only [getRet]
  go_wp2
  exact bodyPost_ret (v := getTRet none) (by simp [results, Tryd.results8, go_sem, getTRet]) rfl ⟨rfl, x1⟩

set_option maxHeartbeats 1000000 in
theorem getText_some (A : Option Addr) (n c z k : Nat) (l : List UInt8) (p : Nat) (r : Option (List UInt8 × Nat)) (w : World) (hb : Bys w A l) (hl : l.length = n) (hc : n ≤ c) (hn : n ≤ 30000) (hT : Tabs w) (hg : getB l p = some (z, k)) (hr : getT l p = r) :
    Calls Tryd.prog 8 #[.slice A n c, Vi p] w fun e w' => e = .returned (getTRet r) ∧ Ext w w' := by
  have hcall := get_any A n c l p w hb hl hc hn
  rw [hg] at hcall
  replace hcall := Lib.hid hcall
  obtain ⟨-, hk1, hz, hk0, hk5⟩ := getB_size hg
  rw [Int.toNat_natCast, hl] at hk1
  unfold getT at hr
  rw [hg, Int.toNat_natCast] at hr
  simp only [List.length_drop, hl] at hr
  have hfr := fromB A n c (p + k) (by omega) ((p : Int) + k) (by omega)
  have hbr := hb.cut hl hc (k := p + k) (by omega)
  have hlr : (l.drop (p + k)).length = n - (p + k) := by rw [List.length_drop, hl]
  generalize cutA A c (p + k) 1 = A2 at hfr hbr
  generalize l.drop (p + k) = t at hbr hlr hr
  clear hg hb hl
  by_cases hbig : n - (p + k) < z
  · rw [if_pos hbig] at hr
    subst hr
    clear hlr hbr
    go_enter Tryd.func8, Tryd.ntmps8
    go_wp2_with fail
    refine hcall.out.mono ?_
    rintro e w1 ⟨rfl, x1⟩
    simp only [getRet]
    go_wp2
    exact bodyPost_ret (v := getTRet none) (by simp [results, Tryd.results8, go_sem, getTRet]) rfl ⟨rfl, x1⟩
  · rw [if_neg hbig] at hr
    have hup := uptoU A2 (n - (p + k)) (c - (p + k)) z (by omega) z rfl
    have hlt : (t.take z).length = z := by rw [List.length_take, hlr]; omega
    have hbt := hbr.take z
    have hcv := fun W (hxW : Ext w W) => textB (c := c - (p + k)) (hbt.ext hxW) hlt
    have hval := fun W (hxW : Ext w W) => Lib.hid (valid_any A2 z (c - (p + k)) (t.take z) W (hbt.ext hxW) hlt (by omega) (by omega) (hT.ext hxW))
    generalize t.take z = s at hcv hval hr
    generalize Lib.validD s = V at hval hr
    clear hlr hbr hbt hlt hT
    go_enter Tryd.func8, Tryd.ntmps8
    go_wp2_with fail
    refine hcall.out.mono ?_
    rintro e w1 ⟨rfl, x1⟩
    simp only [getRet]
    have hv1 := hval w1 x1
    clear hval
    go_wp2_with fail
    refine hv1.out.mono ?_
    rintro e w2 ⟨rfl, x2⟩
    have x12 := x1.trans x2
    have hcv2 := hcv w2 x12
    clear hcv hv1
    cases V with
    | false =>
      rw [if_neg (by simp)] at hr
      subst hr
      go_wp2
      exact bodyPost_ret (v := getTRet none) (by simp [results, Tryd.results8, go_sem, getTRet]) rfl ⟨rfl, x12⟩
    | true =>
      rw [if_pos rfl] at hr
      subst hr
      go_wp2
      exact bodyPost_ret (v := getTRet (some (s, k + z))) (by simp [results, Tryd.results8, go_sem, getTRet]) rfl ⟨rfl, x12⟩

theorem getText_any (A : Option Addr) (n c : Nat) (l : List UInt8) (p : Int) (w : World) (hb : Bys w A l) (hl : l.length = n) (hc : n ≤ c) (hn : n ≤ 30000) (hT : Tabs w) :
    Calls Tryd.prog 8 #[.slice A n c, Vi p] w fun e w' => e = .returned (getTRet (getT l p)) ∧ Ext w w' := by
  cases hg : getB l p with
  | none =>
    have : getT l p = none := by unfold getT; rw [hg]
    rw [this]
    exact getText_none A n c l p w hb hl hc hn hg
  | some q =>
    obtain ⟨z, k⟩ := q
    obtain ⟨h0, _⟩ := getB_size hg
    obtain ⟨q, rfl⟩ : ∃ q : Nat, p = q := ⟨p.toNat, by omega⟩
    exact getText_some A n c z k l q _ w hb hl hc hn hT hg rfl

set_option maxHeartbeats 1000000 in
theorem getTextRef_none (A : Option Addr) (n c : Nat) (l : List UInt8) (p : Int) (w : World) (hb : Bys w A l) (hl : l.length = n) (hn : n ≤ 30000) (hg : getB l p = none) :
    Calls Tryd.prog 9 #[.slice A n c, Vi p] w fun e w' => e = .returned (getTRefRet none) ∧ Ext w w' := by
  have hcall := getRef_any A n c l p w hb hl hn
  rw [hg] at hcall
  replace hcall := Lib.hid hcall
  clear hb hl hg
  go_enter Tryd.func9, Tryd.ntmps9
  go_wp2_with fail
  refine hcall.out.mono ?_
  rintro e w1 ⟨rfl, rfl⟩
  simp only [getRefRet]
  go_wp2
  exact bodyPost_ret (v := getTRefRet none) (by simp [results, Tryd.results9, go_sem, getTRefRet]) rfl ⟨rfl, Ext.refl _⟩

set_option maxHeartbeats 1000000 in
theorem getTextRef_some (A : Option Addr) (n c z k : Nat) (l : List UInt8) (p : Nat) (r : Option (List UInt8 × Nat)) (w : World) (hb : Bys w A l) (hl : l.length = n) (hc : n ≤ c) (hn : n ≤ 30000) (hg : getB l p = some (z, k)) (hr : getT l p = r) :
    Calls Tryd.prog 9 #[.slice A n c, Vi p] w fun e w' => e = .returned (getTRefRet r) ∧ Ext w w' := by
  have hcall := getRef_any A n c l p w hb hl hn
  rw [hg] at hcall
  replace hcall := Lib.hid hcall
  obtain ⟨-, hk1, hz, hk0, hk5⟩ := getB_size hg
  rw [Int.toNat_natCast, hl] at hk1
  unfold getT at hr
  rw [hg, Int.toNat_natCast] at hr
  simp only [List.length_drop, hl] at hr
  have hbr := hb.cut hl hc (k := p + k) (by omega)
  have hlr : (l.drop (p + k)).length = n - (p + k) := by rw [List.length_drop, hl]
  obtain ⟨A2, hA2⟩ : ∃ A2, cutA A c (p + k) 1 = A2 := ⟨_, rfl⟩
  rw [hA2] at hbr
  generalize l.drop (p + k) = t at hbr hlr hr
  clear hg hb hl
  by_cases hbig : n - (p + k) < z
  · rw [if_pos hbig] at hr
    subst hr
    have hbz : (n : Int) - p - k < z := by omega
    clear hlr hbr
    go_enter Tryd.func9, Tryd.ntmps9
    go_wp2_with fail
    refine hcall.out.mono ?_
    rintro e w1 ⟨rfl, rfl⟩
    simp only [getRefRet]
    go_wp2
    exact bodyPost_ret (v := getTRefRet none) (by simp [results, Tryd.results9, go_sem, getTRefRet]) rfl ⟨rfl, Ext.refl _⟩
  · rw [if_neg hbig] at hr
    have hbz : ¬ ((n : Int) - p - k < z) := by omega
    have hmid := midB A n c (p + k) (p + k + z) (by omega) (by omega) ((p : Int) + k) ((p : Int) + k + z) (by omega) (by omega)
    rw [hA2, show p + k + z - (p + k) = z by omega] at hmid
    have hlt : (t.take z).length = z := by rw [List.length_take, hlr]; omega
    have hbt := hbr.take z
    have hcv := textB (c := c - (p + k)) hbt hlt
    have hch := chars_any ⟨(t.take z).toArray⟩ (by show (t.take z).toArray.size ≤ _; simp only [List.size_toArray]; omega) w
    simp only at hch
    generalize t.take z = s at hcv hch hr
    replace hch := Lib.hid hch
    clear hlr hbr hbt hlt hA2
    go_enter Tryd.func9, Tryd.ntmps9
    go_wp2_with fail
    refine hcall.out.mono ?_
    rintro e w1 ⟨rfl, rfl⟩
    simp only [getRefRet]
    go_wp2_with fail
    refine hch.out.mono ?_
    rintro e w2 ⟨⟨hv, rfl⟩ | ⟨hv, v, rfl, ho⟩, x2⟩
    · rw [if_neg (by rw [hv]; simp)] at hr
      subst hr
      clear hv
      go_wp2
      exact bodyPost_ret (v := getTRefRet none) (by simp [results, Tryd.results9, go_sem, getTRefRet]) rfl ⟨rfl, x2⟩
    · rw [if_pos hv] at hr
      subst hr
      clear hv ho
      go_wp2
      exact bodyPost_ret (v := getTRefRet (some (s, k + z))) (by simp [results, Tryd.results9, go_sem, getTRefRet]) rfl ⟨rfl, x2⟩

theorem getTextRef_any (A : Option Addr) (n c : Nat) (l : List UInt8) (p : Int) (w : World) (hb : Bys w A l) (hl : l.length = n) (hc : n ≤ c) (hn : n ≤ 30000) :
    Calls Tryd.prog 9 #[.slice A n c, Vi p] w fun e w' => e = .returned (getTRefRet (getT l p)) ∧ Ext w w' := by
  cases hg : getB l p with
  | none =>
    have : getT l p = none := by unfold getT; rw [hg]
    rw [this]
    exact getTextRef_none A n c l p w hb hl hn hg
  | some q =>
    obtain ⟨z, k⟩ := q
    obtain ⟨h0, _⟩ := getB_size hg
    obtain ⟨q, rfl⟩ : ∃ q : Nat, p = q := ⟨p.toNat, by omega⟩
    exact getTextRef_some A n c z k l q _ w hb hl hc hn hg rfl

end Go.Proofs.YtfdbcekdbffibaaDoor
