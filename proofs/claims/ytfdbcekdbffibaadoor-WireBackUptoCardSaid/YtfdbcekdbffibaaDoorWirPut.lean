/-
  Contracts of what puts numbers and texts: wire's and the reference's; no claim stands here.
-/
import Derived.Test.YtfdbcekdbffibaaDoorByt
import Derived.Test.YtfdbcekdbffibaaDoorLayBits
import Derived.Deep.QuietTactic
import Derived.Deep.LoopGhost
import Derived.RegionTactic
import Derived.IntWalk
namespace Go.Proofs.YtfdbcekdbffibaaDoor
open Go.ChangeShapes Go.WideShapes Go.ChangeAt Go.RowKit Go.Sort
set_option linter.unusedVariables false

theorem len32_any (v : Nat) (hv : v < 4294967296) (w : World) : Calls Tryd.prog 18 #[Vu v] w fun e w' => e = .returned (Vi (Lib.bitLen v)) ∧ w' = w := by
  have := Any.bits_Len32 Tryd.len32 (v : Int) w (by omega) (by omega)
  rw [Int.toNat_natCast] at this
  exact this

/-- what Put's loop keeps -/
def PutRel (w : World) (v : Nat) (t sh : Value) (W : World) : Prop := ∃ (j : Nat) (o : List UInt8), j ≤ 4 ∧ sh = .int .i64 (8 * (j : Int) - 8) ∧ OwnB w W t o ∧ o ++ be v j = numB v ∧ Ext w W
theorem be_succ (v j : Nat) : be v (j + 1) = [UInt8.ofNat (v / 256 ^ j)] ++ be v j := rfl
theorem Vb_of (n : Nat) (z : Int) (h : z = ((n % 256 : Nat) : Int)) : #[Value.int .u8 z] = ([UInt8.ofNat n].map Vb).toArray := by subst h; simp
theorem numB_cons (v : Nat) : numB v = [UInt8.ofNat (lenB v)] ++ be v (lenB v) := rfl

theorem put_byte (v j : Nat) : (v : Int) / 2 ^ (8 * (j + 1) - 8) % 256 = ((v / 256 ^ j % 256 : Nat) : Int) := by
  have e : (2 : Int) ^ (8 * (j + 1) - 8) = ((256 ^ j : Nat) : Int) := by
    rw [show 8 * (j + 1) - 8 = 8 * j by omega, Int.pow_mul, Int.natCast_pow]
    rfl
  rw [e, Int.natCast_emod, Int.natCast_ediv]
  rfl

set_option maxHeartbeats 1000000 in
theorem put_any (v : Nat) (hv : v < 4294967296) (w : World) : Calls Tryd.prog 11 #[Vu v] w (RetB w (numB v)) := by
  obtain ⟨k, hk⟩ : ∃ k, lenB v = k := ⟨_, rfl⟩
  have hB := bitLen_lenB v hv
  have hk4 := lenB_le v
  have hnum := Lib.hid (numB_cons v)
  rw [hk] at hB hk4 hnum
  have hc := Lib.hid (len32_any v hv w)
  generalize Lib.bitLen v = B at hB hc
  have hBz : ((B : Int) + 7) / 8 = (k : Int) := by omega
  have hmk := roomB_run (k + 1) (by omega) (1 + (k : Int)) (by omega)
  clear hB hk
  go_enter Tryd.func11, Tryd.ntmps11
  go_wp2_with fail
  refine hc.out.mono ?_
  rintro e w1 ⟨rfl, rfl⟩
  clear hc
  go_wp2_with (at_builtin; go_loud (refine wpList_append_B (w0 := w1) rfl (.tmp 13) (.tmp 16) rfl _ [] rfl ((OwnB.room (Ext.refl w1) _ (by omega)).ext ((Ext.refl _).alloc _)) (((Ext.refl w1).alloc _).alloc _) _ 1 1 [UInt8.ofNat k] rfl rfl (Bys.new2 _ _ [UInt8.ofNat k] #[.int .u8 (k : Int)] (Vb_of k k (by omega))) (by simp) ?_; intro v2 w2 o2 x2 _))
  rw [List.nil_append] at o2
  replace hnum := Lib.hid hnum.out.symm
  go_loopw [4, 5] (PutRel w1 v) (fun _ i _ => (intOf i + 8).toNat)
  case atStart => exact ⟨k, _, hk4, by go_num, o2, hnum.out, x2⟩
  case round =>
    obtain ⟨j, o, hj4, rfl, ho, hcat, hx⟩ := hrel
    have hol : o.length ≤ 5 := by have h1 := congrArg List.length hcat; rw [List.length_append, numB_len] at h1; have := lenB_le v; omega
    replace hcat := Lib.hid hcat
    cases j with
    | zero =>
      go_wp2
      go_ret
      have := hcat.out
      rw [be, List.append_nil] at this
      exact ⟨_, rfl, this ▸ ho, hx⟩
    | succ j =>
      go_wp2_with (at_builtin; go_loud (refine wpList_append_B (w0 := w1) rfl (.tmp 25) (.tmp 30) rfl _ o rfl (ho.ext ((Ext.refl _).alloc _)) (hx.alloc _) _ 1 1 [UInt8.ofNat (v / 256 ^ j)] rfl rfl (Bys.new _ [UInt8.ofNat (v / 256 ^ j)] #[.int .u8 ((v : Int) / 2 ^ (8 * (j + 1) - 8) % 256)] (Vb_of _ _ (put_byte v j))) (by simp only [List.length_cons, List.length_nil]; omega) ?_; intro v3 w3 o3 x3 _))
      go_roundw
      case rel => exact ⟨j, _, by omega, by go_num, o3, by rw [← hcat.out, be_succ, List.append_assoc], x3⟩
      case measure => simp [intOf]; omega

/-- what the reference's loop keeps -/
def NumRel (w : World) (v : Nat) (vv bb : Value) (W : World) : Prop := ∃ (x : Nat) (o : List UInt8), x < 4294967296 ∧ vv = Vu x ∧ OwnB w W bb o ∧ be x (lenB x) ++ o = be v (lenB v) ∧ Ext w W

set_option maxHeartbeats 1000000 in
theorem number_any (v : Nat) (hv : v < 4294967296) (w : World) : Calls Tryd.prog 12 #[Vu v] w (RetB w (numB v)) := by
  go_enter Tryd.func12, Tryd.ntmps12
  go_wp2
  go_loopw [0, 3] (NumRel w v) (fun i _ _ => (intOf i).toNat)
  case atStart => exact ⟨v, [], hv, rfl, OwnB.nil _ _, by simp, Ext.refl _⟩
  case round =>
    obtain ⟨x, o, hx4, rfl, ho, hcat, hx⟩ := hrel
    have hol : o.length ≤ 4 := by have h1 := congrArg List.length hcat; rw [List.length_append, be_len, be_len] at h1; have := lenB_le v; omega
    have hcl := Lib.hid hcat
    clear hcat
    obtain ⟨A, c, rfl, hoc, hob⟩ := ho.open
    rcases Nat.eq_zero_or_pos x with h0 | h0
    · subst h0
      have hlen : o.length = lenB v := by have h1 := congrArg List.length hcl.out; rw [List.length_append, be_len, be_len] at h1; have h2 : lenB 0 = 0 := rfl; omega
      have hnum := Lib.hid (show [UInt8.ofNat o.length] ++ o = numB v by rw [numB_cons, ← hcl.out, hlen]; rfl)
      clear hcl hlen
      go_wp2_with (at_builtin; go_loud (refine wpList_append_B (w0 := w) rfl (.tmp 17) (.tmp 18) rfl _ [UInt8.ofNat o.length] rfl (OwnB.new hx [UInt8.ofNat o.length] (by simp) #[.int .u8 (o.length : Int)] (Vb_of _ _ (by omega))) (hx.alloc _) A o.length c o rfl rfl (hob.ext ((Ext.refl _).alloc _)) (by simp only [List.length_cons, List.length_nil]; omega) ?_; intro v3 w3 o3 x3 _))
      go_ret
      exact ⟨_, rfl, hnum.out ▸ o3, x3⟩
    · have hnext := Lib.hid (show be (x / 256) (lenB (x / 256)) ++ ([UInt8.ofNat x] ++ o) = be v (lenB v) by rw [← hcl.out, ← List.append_assoc, be_low, ← lenB_div h0 hx4])
      clear hcl
      go_wp2_with (at_builtin; go_loud (refine wpList_append_B (w0 := w) rfl (.tmp 9) (.tmp 10) rfl _ [UInt8.ofNat x] rfl (OwnB.new hx [UInt8.ofNat x] (by simp) #[.int .u8 ((x : Int) % 256)] (Vb_of _ _ (by omega))) (hx.alloc _) A o.length c o rfl rfl (hob.ext ((Ext.refl _).alloc _)) (by simp only [List.length_cons, List.length_nil]; omega) ?_; intro v3 w3 o3 x3 _))
      go_roundw
      case rel => exact ⟨x / 256, _, by omega, by go_num, o3, hnext.out, x3⟩
      case measure => simp [intOf]; omega

set_option maxHeartbeats 1000000 in
theorem putText_any (s : ByteArray) (hs : s.size ≤ 20000) (w : World) : Calls Tryd.prog 13 #[.string s] w (RetB w (putT s.data.toList)) := by
  have hc := Lib.hid (put_any s.size (by omega) w)
  have hl := Lib.hid (show numB s.size ++ s.data.toList = putT s.data.toList by rw [putT, ← Lib.size_eq])
  have hn : (numB s.size).length ≤ 5 := by rw [numB_len]; have := lenB_le s.size; omega
  go_enter Tryd.func13, Tryd.ntmps13
  go_wp2_with fail
  refine hc.out.mono ?_
  rintro e w1 ⟨v1, rfl, o1, x1⟩
  clear hc
  go_wp2_with (at_builtin; go_loud (refine wpList_append_T (w0 := w) rfl (.tmp 6) (.tmp 7) rfl v1 (numB s.size) rfl o1 x1 s rfl (by omega) ?_; intro v3 w3 o3 x3 _))
  go_ret
  exact ⟨_, rfl, hl.out ▸ o3, x3⟩

/-- []byte(s) -/
def bytC (W : World) (s : ByteArray) : Obj := .cells (bytesRow s (grownCap W s.size 0 5)) 5 ((bytesRow s (grownCap W s.size 0 5)).size, (bytesRow s (grownCap W s.size 0 5)).size + 1)
def bytCap (W : World) (s : ByteArray) : Nat := grownCap W s.size 0 5
theorem bytC_run (s : ByteArray) (W : World) : (convert 9 23 (.string s)).run Tryd.prog W = .ok (.slice (some ⟨W.heap.size, 0, none⟩) s.size (bytCap W s)) (W.drew.alloc (bytC W s)) :=
  run_bytes_of_string W _ _ _ s Tryd.underlying9 Tryd.underlying23 Tryd.underlying5
theorem Bys.text (W : World) (s : ByteArray) : Bys (W.drew.alloc (bytC W s)) (some ⟨W.heap.size, 0, none⟩) s.data.toList := fun h0 => by
  refine ⟨_, _, rfl, fun j u hu => ?_⟩
  obtain ⟨x, hx, rfl⟩ : ∃ x, s.data.toList[j]? = some x ∧ Vb x = u := by simpa [List.getElem?_map] using hu
  obtain ⟨hj, e⟩ := List.getElem?_eq_some_iff.1 hx
  have hj' : j < s.data.size := by simpa using hj
  have h1 := World.cell?_alloc_mark W.drew (bytesRow s (grownCap W s.size 0 5)) 5 ((bytesRow s (grownCap W s.size 0 5)).size, (bytesRow s (grownCap W s.size 0 5)).size + 1) (0 + j)
  rw [Nat.zero_add] at h1 ⊢
  rw [bytesRow_at s _ j hj'] at h1
  refine Eq.trans h1 ?_
  rw [← e]
  simp

set_option maxHeartbeats 1000000 in
theorem putTextRef_any (s : ByteArray) (hs : s.size ≤ 20000) (w : World) : Calls Tryd.prog 14 #[.string s] w (RetB w (putT s.data.toList)) := by
  have hc := Lib.hid (number_any s.size (by omega) w)
  have hl := Lib.hid (show numB s.size ++ s.data.toList = putT s.data.toList by rw [putT, ← Lib.size_eq])
  have hn : (numB s.size).length ≤ 5 := by rw [numB_len]; have := lenB_le s.size; omega
  have hcv := bytC_run s
  have hsz : s.data.toList.length = s.size := (Lib.size_eq s).symm
  go_enter Tryd.func14, Tryd.ntmps14
  go_wp2_with fail
  refine hc.out.mono ?_
  rintro e w1 ⟨v1, rfl, o1, x1⟩
  clear hc
  have k1 : Ext w1 (w1.drew.alloc (bytC w1 s)) := (Ext.refl _).drew.alloc _
  go_wp2_with (at_builtin; go_loud (refine wpList_append_B (w0 := w) rfl (.tmp 6) (.tmp 8) rfl v1 (numB s.size) rfl (o1.ext k1) (x1.trans k1) _ s.size (bytCap w1 s) s.data.toList rfl hsz (Bys.text w1 s) (by omega) ?_; intro v3 w3 o3 x3 _))
  go_ret
  exact ⟨_, rfl, hl.out ▸ o3, x3⟩

end Go.Proofs.YtfdbcekdbffibaaDoor
