/-
  Contracts of what gets numbers: wire's and the reference's; no claim stands here.
-/
import Derived.Laws.BitsAllLaws
import Derived.Deep.QuietTactic
import Derived.Deep.LoopGhost
import Derived.RegionTactic
import Derived.IntWalk
import Derived.Test.YthpminlfbjedpaaDoorZH
namespace Go.Proofs.YthpminlfbjedpaaDoor
open Go.ChangeShapes Go.WideShapes Go.ChangeAt Go.RowKit Go.Sort
set_option linter.unusedVariables false

/-- ErrMalformed -/
abbrev errM : Value := .iface 58 (.int .i64 2)

theorem getB_in {l : List UInt8} {p : Nat} (hp : p < l.length) {f : Nat} (hf : (l.getD p 0).toNat = f) :
    getB l p = if 4 < f ∨ (l.drop (p + 1)).length < f ∨ (0 < f ∧ ((l.drop (p + 1)).getD 0 0).toNat = 0) then none else some (valB ((l.drop (p + 1)).take f), f + 1) := by
  unfold getB
  rw [Int.toNat_natCast, hf, if_neg (by omega)]
theorem getB_out {l : List UInt8} {p : Int} (hp : p < 0 ∨ (l.length : Int) ≤ p) : getB l p = none := by
  unfold getB
  rw [if_pos hp]

theorem or_byte {V x : Nat} (hV : V < 16777216) (hx : x < 256) : bits .or .u32 ((V : Int) * 256) x = ((V * 256 + x : Nat) : Int) := by
  have := u32_or_nat (V * 256) x (by omega) (by omega)
  rw [Int.natCast_mul] at this
  refine Eq.trans this ?_
  have h := Nat.two_pow_add_eq_or_of_lt (i := 8) (b := x) hx V
  rw [show 2 ^ 8 = 256 from rfl, Nat.mul_comm] at h
  rw [h]

set_option maxHeartbeats 1000000 in
theorem get_out (A : Option Addr) (n c : Nat) (p : Int) (w : World) (hn : n ≤ 30000) (hp : p < 0 ∨ (n : Int) ≤ p) :
    Calls Tryd.prog 51 #[.slice A n c, Vi p] w fun e w' => e = .returned (.tuple #[Vu 0, Vi 0, errM]) ∧ Ext w w' := by
  by_cases h1 : p < 0
  · go_enter Tryd.func51, Tryd.ntmps51
    go_wp2
    exact bodyPost_ret (v := .tuple #[Vu 0, Vi 0, errM]) (by simp [results, Tryd.results51, go_sem]) rfl ⟨rfl, Ext.refl _⟩
  · have h2 : (n : Int) ≤ p := by omega
    go_enter Tryd.func51, Tryd.ntmps51
    go_wp2
    exact bodyPost_ret (v := .tuple #[Vu 0, Vi 0, errM]) (by simp [results, Tryd.results51, go_sem]) rfl ⟨rfl, Ext.refl _⟩

set_option maxHeartbeats 1000000 in
theorem get_bad (A : Option Addr) (n c p f : Nat) (l : List UInt8) (w : World) (hb : Bys w A l) (hl : l.length = n) (hc : n ≤ c) (hn : n ≤ 30000) (hp : p < n) (hf : (l.getD p 0).toNat = f)
    (hbad : 4 < f ∨ n - (p + 1) < f) : Calls Tryd.prog 51 #[.slice A n c, Vi p] w fun e w' => e = .returned (.tuple #[Vu 0, Vi 0, errM]) ∧ Ext w w' := by
  obtain ⟨b, o, rfl, hcell⟩ := hb.at (k := p) (by omega)
  have hfr := fromB (some ⟨b, o, none⟩) n c (p + 1) (by omega) ((p : Int) + 1) (by omega)
  have hf5 : f < 256 := by rw [← hf]; exact (l.getD p 0).toNat_lt
  rw [Vb, hf] at hcell
  clear hb hf hl
  go_enter Tryd.func51, Tryd.ntmps51
  go_wp2
  go_quiet (fail)
  by_cases h4 : 4 < f
  · go_wp2
    exact bodyPost_ret (v := .tuple #[Vu 0, Vi 0, errM]) (by simp [results, Tryd.results51, go_sem]) rfl ⟨rfl, (Ext.refl _).drewN _⟩
  · have hlen : n - (p + 1) < f := by omega
    go_wp2
    exact bodyPost_ret (v := .tuple #[Vu 0, Vi 0, errM]) (by simp [results, Tryd.results51, go_sem]) rfl ⟨rfl, (Ext.refl _).drewN _⟩

set_option maxHeartbeats 1000000 in
theorem get_zero (A : Option Addr) (n c p f : Nat) (l : List UInt8) (w : World) (hb : Bys w A l) (hl : l.length = n) (hc : n ≤ c) (hn : n ≤ 30000) (hp : p + 1 < n) (hf : (l.getD p 0).toNat = f)
    (h0 : 0 < f) (h4 : f ≤ 4) (hlen : f ≤ n - (p + 1)) (hz : (l.getD (p + 1) 0).toNat = 0) : Calls Tryd.prog 51 #[.slice A n c, Vi p] w fun e w' => e = .returned (.tuple #[Vu 0, Vi 0, errM]) ∧ Ext w w' := by
  obtain ⟨b, o, rfl, hcell⟩ := hb.at (k := p) (by omega)
  have hcell1 := hb.all (p + 1) (by omega)
  have hfr := fromB (some ⟨b, o, none⟩) n c (p + 1) (by omega) ((p : Int) + 1) (by omega)
  have hcut : cutA (some ⟨b, o, none⟩) c (p + 1) 1 = some ⟨b, o + (p + 1), none⟩ := by unfold cutA; rw [if_neg (by omega), Option.map_some, add_at, Nat.mul_one]
  rw [hcut] at hfr
  rw [Vb, hf] at hcell
  rw [Vb, hz] at hcell1
  clear hb hf hl hz hcut
  go_enter Tryd.func51, Tryd.ntmps51
  go_wp2
  go_quiet (fail)
  go_wp2
  exact bodyPost_ret (v := .tuple #[Vu 0, Vi 0, errM]) (by simp [results, Tryd.results51, go_sem]) rfl ⟨rfl, (Ext.refl _).drewN _⟩

set_option maxHeartbeats 1000000 in
theorem get_none_found (A : Option Addr) (n c p : Nat) (l : List UInt8) (w : World) (hb : Bys w A l) (hl : l.length = n) (hc : n ≤ c) (hn : n ≤ 30000) (hp : p < n) (hf : (l.getD p 0).toNat = 0) :
    Calls Tryd.prog 51 #[.slice A n c, Vi p] w fun e w' => e = .returned (.tuple #[Vu 0, Vi 1, .nilIface]) ∧ Ext w w' := by
  obtain ⟨b, o, rfl, hcell⟩ := hb.at (k := p) (by omega)
  have hfr := fromB (some ⟨b, o, none⟩) n c (p + 1) (by omega) ((p : Int) + 1) (by omega)
  obtain ⟨A2, hA2⟩ : ∃ A2, cutA (some ⟨b, o, none⟩) c (p + 1) 1 = A2 := ⟨_, rfl⟩
  rw [hA2] at hfr
  have hup := uptoB A2 (n - (p + 1)) (c - (p + 1)) 0 (by omega) 0 rfl
  rw [Vb, hf] at hcell
  clear hb hf hl hA2
  go_enter Tryd.func51, Tryd.ntmps51
  go_wp2
  go_quiet (fail)
  go_wp2
  go_loop [9, 53] (fun v i => v = Vu 0 ∧ i = Vi 0) (fun _ _ => 0)
  case atStart => exact ⟨rfl, rfl⟩
  case round =>
    obtain ⟨rfl, rfl⟩ := hrel
    go_wp2
    exact bodyPost_ret (v := .tuple #[Vu 0, Vi 1, .nilIface]) (by simp [results, Tryd.results51, go_sem]) rfl ⟨rfl, (Ext.refl _).drewN _⟩

set_option maxHeartbeats 1000000 in
theorem get_found (A : Option Addr) (n c p f : Nat) (l : List UInt8) (w : World) (hb : Bys w A l) (hl : l.length = n) (hc : n ≤ c) (hn : n ≤ 30000) (hp : p + 1 < n) (hf : (l.getD p 0).toNat = f)
    (h0 : 0 < f) (h4 : f ≤ 4) (hlen : f ≤ n - (p + 1)) (hz : (l.getD (p + 1) 0).toNat ≠ 0) : Calls Tryd.prog 51 #[.slice A n c, Vi p] w fun e w' => e = .returned (.tuple #[Vu (valB ((l.drop (p + 1)).take f)), Vi ((f + 1 : Nat) : Int), .nilIface]) ∧ Ext w w' := by
  obtain ⟨b, o, rfl, hcell⟩ := hb.at (k := p) (by omega)
  have hcell1 := hb.all (p + 1) (by omega)
  have hfr := fromB (some ⟨b, o, none⟩) n c (p + 1) (by omega) ((p : Int) + 1) (by omega)
  have hcut : cutA (some ⟨b, o, none⟩) c (p + 1) 1 = some ⟨b, o + (p + 1), none⟩ := by unfold cutA; rw [if_neg (by omega), Option.map_some, add_at, Nat.mul_one]
  rw [hcut] at hfr
  have hup := uptoB (some ⟨b, o + (p + 1), none⟩) (n - (p + 1)) (c - (p + 1)) f (by omega) f rfl
  have hzz : ((((l.getD (p + 1) 0).toNat : Nat) : Int) == 0) = false := by rw [beq_eq_false_iff_ne]; omega
  have hbr := Lib.hid hb
  have hlr := Lib.hid hl
  rw [Vb, hf] at hcell
  rw [Vb] at hcell1
  generalize (l.getD (p + 1) 0).toNat = z1 at hzz hcell1
  clear hb hf hl hz hcut
  go_enter Tryd.func51, Tryd.ntmps51
  go_wp2
  go_quiet (fail)
  go_wp2
  go_loop [9, 53] (fun v i => ∃ k : Nat, k ≤ f ∧ v = Vu (valB ((l.drop (p + 1)).take k)) ∧ i = Vi k) (fun _ i => f - (intOf i).toNat)
  case atStart => exact ⟨0, by omega, rfl, rfl⟩
  case round =>
    obtain ⟨k, hk, rfl, rfl⟩ := hrel
    by_cases hlt : k < f
    · have hck := hbr.out.all (p + 1 + k) (by rw [hlr.out]; omega)
      rw [← Nat.add_assoc, Vb] at hck
      have hV := valB_lt k (l.drop (p + 1))
      have hV3 : valB ((l.drop (p + 1)).take k) < 16777216 := Nat.lt_of_lt_of_le hV (by
        calc 256 ^ k ≤ 256 ^ 3 := Nat.pow_le_pow_right (by omega) (by omega)
          _ = 16777216 := by rfl)
      have hnext := Lib.hid (valB_take (l := l.drop (p + 1)) (k := k) (by rw [List.length_drop, hlr.out]; omega))
      rw [Lib.getD_dropU] at hnext
      have hx := (l.getD (p + 1 + k) 0).toNat_lt
      generalize (l.getD (p + 1 + k) 0).toNat = x at hck hnext hx
      generalize valB ((l.drop (p + 1)).take k) = V at hV3 hnext hV ⊢
      clear hV
      have hor := or_byte hV3 hx
      go_wp2
      go_round
      case rel => exact ⟨k + 1, by omega, congrArg (Value.int .u32) (by rw [hnext.out]; omega), by go_num⟩
      case measure => simp [intOf]; omega
    · obtain rfl : k = f := by omega
      go_wp2
      exact bodyPost_ret (v := .tuple #[Vu (valB ((l.drop (p + 1)).take k)), Vi ((k + 1 : Nat) : Int), .nilIface]) (by simp [results, Tryd.results51, go_sem]; omega) rfl ⟨rfl, (Ext.refl _).drewN _⟩

/-- what Get answers -/
def getRet (r : Option (Nat × Nat)) : Value := match r with
  | none => .tuple #[Vu 0, Vi 0, errM]
  | some (v, n) => .tuple #[Vu v, Vi n, .nilIface]

theorem get_any (A : Option Addr) (n c : Nat) (l : List UInt8) (p : Int) (w : World) (hb : Bys w A l) (hl : l.length = n) (hc : n ≤ c) (hn : n ≤ 30000) :
    Calls Tryd.prog 51 #[.slice A n c, Vi p] w fun e w' => e = .returned (getRet (getB l p)) ∧ Ext w w' := by
  by_cases hout : p < 0 ∨ (n : Int) ≤ p
  · rw [getB_out (by rw [hl]; exact hout)]
    exact get_out A n c p w hn hout
  obtain ⟨q, rfl⟩ : ∃ q : Nat, p = q := ⟨p.toNat, by omega⟩
  have hq : q < n := by omega
  obtain ⟨f, hf⟩ : ∃ f, (l.getD q 0).toNat = f := ⟨_, rfl⟩
  rw [getB_in (by omega) hf, List.length_drop, hl, Lib.getD_dropU, Nat.add_zero]
  by_cases hbad : 4 < f ∨ n - (q + 1) < f
  · rw [if_pos (by omega)]
    exact get_bad A n c q f l w hb hl hc hn hq hf hbad
  rcases Nat.eq_zero_or_pos f with h0 | h0
  · subst h0
    rw [if_neg (by omega)]
    exact get_none_found A n c q l w hb hl hc hn hq hf
  by_cases hz : (l.getD (q + 1) 0).toNat = 0
  · rw [if_pos (by omega)]
    exact get_zero A n c q f l w hb hl hc hn (by omega) hf h0 (by omega) (by omega) hz
  · rw [if_neg (by omega)]
    exact get_found A n c q f l w hb hl hc hn (by omega) hf h0 (by omega) (by omega) hz

/-- what the reference's GetNumber answers -/
def getRefRet (r : Option (Nat × Nat)) : Value := match r with
  | none => .tuple #[Vu 0, Vi 0, .bool false]
  | some (v, n) => .tuple #[Vu v, Vi n, .bool true]

set_option maxHeartbeats 1000000 in
theorem getRef_out (A : Option Addr) (n c : Nat) (p : Int) (w : World) (hn : n ≤ 30000) (hp : p < 0 ∨ (n : Int) ≤ p) :
    Calls Tryd.prog 41 #[.slice A n c, Vi p] w fun e w' => e = .returned (.tuple #[Vu 0, Vi 0, .bool false]) ∧ w = w' := by
  by_cases h1 : p < 0
  · go_enter Tryd.func41, Tryd.ntmps41
    go_wp2
    exact bodyPost_ret (v := .tuple #[Vu 0, Vi 0, .bool false]) (by simp [results, Tryd.results41, go_sem]) rfl ⟨rfl, rfl⟩
  · have h2 : (n : Int) ≤ p := by omega
    go_enter Tryd.func41, Tryd.ntmps41
    go_wp2
    exact bodyPost_ret (v := .tuple #[Vu 0, Vi 0, .bool false]) (by simp [results, Tryd.results41, go_sem]) rfl ⟨rfl, rfl⟩

set_option maxHeartbeats 1000000 in
theorem getRef_bad (A : Option Addr) (n c p f : Nat) (l : List UInt8) (w : World) (hb : Bys w A l) (hl : l.length = n) (hn : n ≤ 30000) (hp : p < n) (hf : (l.getD p 0).toNat = f)
    (hbad : 4 < f ∨ n - (p + 1) < f) : Calls Tryd.prog 41 #[.slice A n c, Vi p] w fun e w' => e = .returned (.tuple #[Vu 0, Vi 0, .bool false]) ∧ w = w' := by
  obtain ⟨b, o, rfl, hcell⟩ := hb.at (k := p) (by omega)
  have hf5 : f < 256 := by rw [← hf]; exact (l.getD p 0).toNat_lt
  rw [Vb, hf] at hcell
  clear hb hf hl
  by_cases h4 : 4 < f
  · go_enter Tryd.func41, Tryd.ntmps41
    go_wp2
    exact bodyPost_ret (v := .tuple #[Vu 0, Vi 0, .bool false]) (by simp [results, Tryd.results41, go_sem]) rfl ⟨rfl, rfl⟩
  · have hlen : (n : Int) - p - 1 < f := by omega
    go_enter Tryd.func41, Tryd.ntmps41
    go_wp2
    exact bodyPost_ret (v := .tuple #[Vu 0, Vi 0, .bool false]) (by simp [results, Tryd.results41, go_sem]) rfl ⟨rfl, rfl⟩

set_option maxHeartbeats 1000000 in
theorem getRef_in (A : Option Addr) (n c p f : Nat) (l : List UInt8) (r : Option (Nat × Nat)) (w : World) (hb : Bys w A l) (hl : l.length = n) (hn : n ≤ 30000) (hp : p < n) (hf : (l.getD p 0).toNat = f)
    (h4 : f ≤ 4) (hlen : f ≤ n - (p + 1)) (hr : r = if 0 < f ∧ (l.getD (p + 1) 0).toNat = 0 then none else some (valB ((l.drop (p + 1)).take f), f + 1)) :
    Calls Tryd.prog 41 #[.slice A n c, Vi p] w fun e w' => e = .returned (getRefRet r) ∧ w = w' := by
  obtain ⟨b, o, rfl, hcell⟩ := hb.at (k := p) (by omega)
  have hlen' : ¬ ((n : Int) - p - 1 < f) := by omega
  have hbr := Lib.hid hb
  have hlr := Lib.hid hl
  have hrr := Lib.hid hr
  rw [Vb, hf] at hcell
  clear hb hf hl hr
  go_enter Tryd.func41, Tryd.ntmps41
  go_wp2
  go_loop [8, 9] (fun v i => ∃ k : Nat, k ≤ f ∧ (0 < k → (l.getD (p + 1) 0).toNat ≠ 0) ∧ v = Vu (valB ((l.drop (p + 1)).take k)) ∧ i = Vi ((k : Int) + 1)) (fun _ i => f + 1 - (intOf i).toNat)
  case atStart => exact ⟨0, by omega, by omega, rfl, rfl⟩
  case round =>
    obtain ⟨k, hk, hnz, rfl, rfl⟩ := hrel
    by_cases hlt : k < f
    · have hck := hbr.out.all (p + 1 + k) (by rw [hlr.out]; omega)
      rw [Vb] at hck
      have hV := valB_lt k (l.drop (p + 1))
      have hV3 : valB ((l.drop (p + 1)).take k) < 16777216 := Nat.lt_of_lt_of_le hV (by
        calc 256 ^ k ≤ 256 ^ 3 := Nat.pow_le_pow_right (by omega) (by omega)
          _ = 16777216 := by rfl)
      have hnext := Lib.hid (valB_take (l := l.drop (p + 1)) (k := k) (by rw [List.length_drop, hlr.out]; omega))
      rw [Lib.getD_dropU] at hnext
      have hx := (l.getD (p + 1 + k) 0).toNat_lt
      rcases Nat.eq_zero_or_pos k with hk0 | hk0
      · subst hk0
        simp only [Nat.add_zero] at hck hnext hx
        by_cases hz : (l.getD (p + 1) 0).toNat = 0
        · rw [hz] at hck
          rw [if_pos ⟨hlt, hz⟩] at hrr
          clear hnz hV hV3 hnext hx
          go_wp2
          exact bodyPost_ret (v := getRefRet r) (by rw [hrr.out]; simp [results, Tryd.results41, go_sem, getRefRet]) rfl ⟨rfl, rfl⟩
        · have hzz : ((((l.getD (p + 1) 0).toNat : Nat) : Int) == 0) = false := by rw [beq_eq_false_iff_ne]; omega
          have hzh := Lib.hid hz
          clear hnz hz
          generalize hxe : (l.getD (p + 1) 0).toNat = x at hck hnext hx hzz hzh
          generalize valB ((l.drop (p + 1)).take 0) = V at hV3 hnext hV ⊢
          replace hxe := Lib.hid hxe
          clear hV
          go_wp2
          go_round
          case rel => exact ⟨1, by omega, fun _ => hzh.out, congrArg (Value.int .u32) (by rw [hnext.out]; omega), by go_num⟩
          case measure => simp [intOf]; omega
      · have hk1 : (((k : Int) + 1) == 1) = false := by rw [beq_eq_false_iff_ne]; omega
        have hnzh := Lib.hid (hnz hk0)
        clear hnz
        generalize (l.getD (p + 1 + k) 0).toNat = x at hck hnext hx
        generalize valB ((l.drop (p + 1)).take k) = V at hV3 hnext hV ⊢
        clear hV
        rw [show p + 1 + k = p + (k + 1) by omega] at hck
        go_wp2
        go_round
        case rel => exact ⟨k + 1, by omega, fun _ => hnzh.out, congrArg (Value.int .u32) (by rw [hnext.out]; omega), by go_num⟩
        case measure => simp [intOf]; omega
    · obtain rfl : k = f := by omega
      rw [if_neg (by intro hh; exact hnz hh.1 hh.2)] at hrr
      clear hnz
      go_wp2
      exact bodyPost_ret (v := getRefRet r) (by rw [hrr.out]; simp [results, Tryd.results41, go_sem, getRefRet]) rfl ⟨rfl, rfl⟩

theorem getRef_any (A : Option Addr) (n c : Nat) (l : List UInt8) (p : Int) (w : World) (hb : Bys w A l) (hl : l.length = n) (hn : n ≤ 30000) :
    Calls Tryd.prog 41 #[.slice A n c, Vi p] w fun e w' => e = .returned (getRefRet (getB l p)) ∧ w = w' := by
  by_cases hout : p < 0 ∨ (n : Int) ≤ p
  · rw [getB_out (by rw [hl]; exact hout)]
    exact getRef_out A n c p w hn hout
  obtain ⟨q, rfl⟩ : ∃ q : Nat, p = q := ⟨p.toNat, by omega⟩
  have hq : q < n := by omega
  obtain ⟨f, hf⟩ : ∃ f, (l.getD q 0).toNat = f := ⟨_, rfl⟩
  rw [getB_in (by omega) hf, List.length_drop, hl, Lib.getD_dropU, Nat.add_zero]
  by_cases hbad : 4 < f ∨ n - (q + 1) < f
  · rw [if_pos (by omega)]
    exact getRef_bad A n c q f l w hb hl hn hq hf hbad
  · refine getRef_in A n c q f l _ w hb hl hn hq hf (by omega) (by omega) ?_
    by_cases hz : 0 < f ∧ (l.getD (q + 1) 0).toNat = 0
    · rw [if_pos (by omega), if_pos hz]
    · rw [if_neg (by omega), if_neg hz]

end Go.Proofs.YthpminlfbjedpaaDoor
