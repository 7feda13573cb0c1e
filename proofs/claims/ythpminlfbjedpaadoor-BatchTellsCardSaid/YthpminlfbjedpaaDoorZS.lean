/-
  Several texts of this seat in one file, each in the namespace again; no claim stands here.
-/
import Derived.Deep.QuietTactic
import Derived.Deep.LoopGhost
import Derived.RegionTactic
import Derived.IntWalk
import Derived.Test.YthpminlfbjedpaaDoorZH
import Derived.Test.YthpminlfbjedpaaDoorLayBits
import Derived.Test.YthpminlfbjedpaaDoorZL
import Derived.Test.YthpminlfbjedpaaDoorZO
import Derived.Test.YthpminlfbjedpaaDoorZQ
import Derived.Test.YthpminlfbjedpaaDoorZP
import Derived.Test.YthpminlfbjedpaaDoorBMath
namespace Go.Proofs.YthpminlfbjedpaaDoor
open Go.ChangeShapes Go.WideShapes Go.ChangeAt Go.RowKit Go.Sort
set_option linter.unusedVariables false

theorem len32_any (v : Nat) (hv : v < 4294967296) (w : World) : Calls Tryd.prog 36 #[Vu v] w fun e w' => e = .returned (Vi (Lib.bitLen v)) ∧ w' = w := by
  have := Any.bits_Len32 Tryd.len32 (v : Int) w (by omega) (by omega)
  rw [Int.toNat_natCast] at this
  exact this

/-- what Put's loop keeps -/
def PutRel (w : World) (v : Nat) (t sh : Value) (W : World) : Prop := ∃ (j : Nat) (o : List UInt8), j ≤ 4 ∧ sh = .int .i64 (8 * (j : Int) - 8) ∧ OwnB w W t o ∧ o ++ be v j = numB v ∧ Ext w W
theorem be_succ (v j : Nat) : be v (j + 1) = [UInt8.ofNat (v / 256 ^ j)] ++ be v j := rfl
theorem Vb_of (n : Nat) (z : Int) (h : z = ((n % 256 : Nat) : Int)) : #[Value.int .u8 z] = ([UInt8.ofNat n].map Vb).toArray := by subst h; simp
theorem numB_cons (v : Nat) : numB v = [UInt8.ofNat (lenB v)] ++ be v (lenB v) := rfl

theorem put_byte (v j : Nat) : (v : Int) / 2 ^ (8 * (j + 1) - 8) % 256 = ((v / 256 ^ j % 256 : Nat) : Int) := by
  have e : (2 : Int) ^ (8 * (j + 1) - 8) = ((256 ^ j : Nat) : Int) := by
    rw [show 8 * (j + 1) - 8 = 8 * j by omega, Int.pow_mul, Int.natCast_pow]
    rfl
  rw [e, Int.natCast_emod, Int.natCast_ediv]
  rfl

set_option maxHeartbeats 1000000 in
theorem put_any (v : Nat) (hv : v < 4294967296) (w : World) : Calls Tryd.prog 21 #[Vu v] w (RetB w (numB v)) := by
  obtain ⟨k, hk⟩ : ∃ k, lenB v = k := ⟨_, rfl⟩
  have hB := bitLen_lenB v hv
  have hk4 := lenB_le v
  have hnum := Lib.hid (numB_cons v)
  rw [hk] at hB hk4 hnum
  have hc := Lib.hid (len32_any v hv w)
  generalize Lib.bitLen v = B at hB hc
  have hBz : ((B : Int) + 7) / 8 = (k : Int) := by omega
  have hmk := roomB_run (k + 1) (by omega) (1 + (k : Int)) (by omega)
  clear hB hk
  go_enter Tryd.func21, Tryd.ntmps21
  go_wp2_with fail
  refine hc.out.mono ?_
  rintro e w1 ⟨rfl, rfl⟩
  clear hc
  go_wp2_with (at_builtin; go_loud (refine wpList_append_B (w0 := w1) rfl (.tmp 13) (.tmp 16) rfl _ [] rfl ((OwnB.room (Ext.refl w1) _ (by omega)).ext ((Ext.refl _).alloc _)) (((Ext.refl w1).alloc _).alloc _) _ 1 1 [UInt8.ofNat k] rfl rfl (Bys.new2 _ _ [UInt8.ofNat k] #[.int .u8 (k : Int)] (Vb_of k k (by omega))) (by simp) ?_; intro v2 w2 o2 x2 _))
  rw [List.nil_append] at o2
  replace hnum := Lib.hid hnum.out.symm
  go_loopw [4, 5] (PutRel w1 v) (fun _ i _ => (intOf i + 8).toNat)
  case atStart => exact ⟨k, _, hk4, by go_num, o2, hnum.out, x2⟩
  case round =>
    obtain ⟨j, o, hj4, rfl, ho, hcat, hx⟩ := hrel
    have hol : o.length ≤ 5 := by have h1 := congrArg List.length hcat; rw [List.length_append, numB_len] at h1; have := lenB_le v; omega
    replace hcat := Lib.hid hcat
    cases j with
    | zero =>
      go_wp2
      go_ret
      have := hcat.out
      rw [be, List.append_nil] at this
      exact ⟨_, rfl, this ▸ ho, hx⟩
    | succ j =>
      go_wp2_with (at_builtin; go_loud (refine wpList_append_B (w0 := w1) rfl (.tmp 25) (.tmp 30) rfl _ o rfl (ho.ext ((Ext.refl _).alloc _)) (hx.alloc _) _ 1 1 [UInt8.ofNat (v / 256 ^ j)] rfl rfl (Bys.new _ [UInt8.ofNat (v / 256 ^ j)] #[.int .u8 ((v : Int) / 2 ^ (8 * (j + 1) - 8) % 256)] (Vb_of _ _ (put_byte v j))) (by simp only [List.length_cons, List.length_nil]; omega) ?_; intro v3 w3 o3 x3 _))
      go_roundw
      case rel => exact ⟨j, _, by omega, by go_num, o3, by rw [← hcat.out, be_succ, List.append_assoc], x3⟩
      case measure => simp [intOf]; omega

/-- what the reference's loop keeps -/
def NumRel (w : World) (v : Nat) (vv bb : Value) (W : World) : Prop := ∃ (x : Nat) (o : List UInt8), x < 4294967296 ∧ vv = Vu x ∧ OwnB w W bb o ∧ be x (lenB x) ++ o = be v (lenB v) ∧ Ext w W

set_option maxHeartbeats 1000000 in
theorem number_any (v : Nat) (hv : v < 4294967296) (w : World) : Calls Tryd.prog 24 #[Vu v] w (RetB w (numB v)) := by
  go_enter Tryd.func24, Tryd.ntmps24
  go_wp2
  go_loopw [0, 3] (NumRel w v) (fun i _ _ => (intOf i).toNat)
  case atStart => exact ⟨v, [], hv, rfl, OwnB.nil _ _, by simp, Ext.refl _⟩
  case round =>
    obtain ⟨x, o, hx4, rfl, ho, hcat, hx⟩ := hrel
    have hol : o.length ≤ 4 := by have h1 := congrArg List.length hcat; rw [List.length_append, be_len, be_len] at h1; have := lenB_le v; omega
    have hcl := Lib.hid hcat
    clear hcat
    obtain ⟨A, c, rfl, hoc, hob⟩ := ho.open
    rcases Nat.eq_zero_or_pos x with h0 | h0
    · subst h0
      have hlen : o.length = lenB v := by have h1 := congrArg List.length hcl.out; rw [List.length_append, be_len, be_len] at h1; have h2 : lenB 0 = 0 := rfl; omega
      have hnum := Lib.hid (show [UInt8.ofNat o.length] ++ o = numB v by rw [numB_cons, ← hcl.out, hlen]; rfl)
      clear hcl hlen
      go_wp2_with (at_builtin; go_loud (refine wpList_append_B (w0 := w) rfl (.tmp 17) (.tmp 18) rfl _ [UInt8.ofNat o.length] rfl (OwnB.new hx [UInt8.ofNat o.length] (by simp) #[.int .u8 (o.length : Int)] (Vb_of _ _ (by omega))) (hx.alloc _) A o.length c o rfl rfl (hob.ext ((Ext.refl _).alloc _)) (by simp only [List.length_cons, List.length_nil]; omega) ?_; intro v3 w3 o3 x3 _))
      go_ret
      exact ⟨_, rfl, hnum.out ▸ o3, x3⟩
    · have hnext := Lib.hid (show be (x / 256) (lenB (x / 256)) ++ ([UInt8.ofNat x] ++ o) = be v (lenB v) by rw [← hcl.out, ← List.append_assoc, be_low, ← lenB_div h0 hx4])
      clear hcl
      go_wp2_with (at_builtin; go_loud (refine wpList_append_B (w0 := w) rfl (.tmp 9) (.tmp 10) rfl _ [UInt8.ofNat x] rfl (OwnB.new hx [UInt8.ofNat x] (by simp) #[.int .u8 ((x : Int) % 256)] (Vb_of _ _ (by omega))) (hx.alloc _) A o.length c o rfl rfl (hob.ext ((Ext.refl _).alloc _)) (by simp only [List.length_cons, List.length_nil]; omega) ?_; intro v3 w3 o3 x3 _))
      go_roundw
      case rel => exact ⟨x / 256, _, by omega, by go_num, o3, hnext.out, x3⟩
      case measure => simp [intOf]; omega

set_option maxHeartbeats 1000000 in
theorem putText_any (s : ByteArray) (hs : s.size ≤ 20000) (w : World) : Calls Tryd.prog 37 #[.string s] w (RetB w (putT s.data.toList)) := by
  have hc := Lib.hid (put_any s.size (by omega) w)
  have hl := Lib.hid (show numB s.size ++ s.data.toList = putT s.data.toList by rw [putT, ← Lib.size_eq])
  have hn : (numB s.size).length ≤ 5 := by rw [numB_len]; have := lenB_le s.size; omega
  go_enter Tryd.func37, Tryd.ntmps37
  go_wp2_with fail
  refine hc.out.mono ?_
  rintro e w1 ⟨v1, rfl, o1, x1⟩
  clear hc
  go_wp2_with (at_builtin; go_loud (refine wpList_append_T (w0 := w) rfl (.tmp 6) (.tmp 7) rfl v1 (numB s.size) rfl o1 x1 s rfl (by omega) ?_; intro v3 w3 o3 x3 _))
  go_ret
  exact ⟨_, rfl, hl.out ▸ o3, x3⟩

/-- []byte(s) -/
def bytC (W : World) (s : ByteArray) : Obj := .cells (bytesRow s (grownCap W s.size 0 5)) 5 ((bytesRow s (grownCap W s.size 0 5)).size, (bytesRow s (grownCap W s.size 0 5)).size + 1)
def bytCap (W : World) (s : ByteArray) : Nat := grownCap W s.size 0 5
theorem bytC_run (s : ByteArray) (W : World) : (convert 9 26 (.string s)).run Tryd.prog W = .ok (.slice (some ⟨W.heap.size, 0, none⟩) s.size (bytCap W s)) (W.drew.alloc (bytC W s)) :=
  run_bytes_of_string W _ _ _ s Tryd.underlying9 Tryd.underlying26 Tryd.underlying5
theorem Bys.text (W : World) (s : ByteArray) : Bys (W.drew.alloc (bytC W s)) (some ⟨W.heap.size, 0, none⟩) s.data.toList := fun h0 => by
  refine ⟨_, _, rfl, fun j u hu => ?_⟩
  obtain ⟨x, hx, rfl⟩ : ∃ x, s.data.toList[j]? = some x ∧ Vb x = u := by simpa [List.getElem?_map] using hu
  obtain ⟨hj, e⟩ := List.getElem?_eq_some_iff.1 hx
  have hj' : j < s.data.size := by simpa using hj
  have h1 := World.cell?_alloc_mark W.drew (bytesRow s (grownCap W s.size 0 5)) 5 ((bytesRow s (grownCap W s.size 0 5)).size, (bytesRow s (grownCap W s.size 0 5)).size + 1) (0 + j)
  rw [Nat.zero_add] at h1 ⊢
  rw [bytesRow_at s _ j hj'] at h1
  refine Eq.trans h1 ?_
  rw [← e]
  simp

set_option maxHeartbeats 1000000 in
theorem putTextRef_any (s : ByteArray) (hs : s.size ≤ 20000) (w : World) : Calls Tryd.prog 26 #[.string s] w (RetB w (putT s.data.toList)) := by
  have hc := Lib.hid (number_any s.size (by omega) w)
  have hl := Lib.hid (show numB s.size ++ s.data.toList = putT s.data.toList by rw [putT, ← Lib.size_eq])
  have hn : (numB s.size).length ≤ 5 := by rw [numB_len]; have := lenB_le s.size; omega
  have hcv := bytC_run s
  have hsz : s.data.toList.length = s.size := (Lib.size_eq s).symm
  go_enter Tryd.func26, Tryd.ntmps26
  go_wp2_with fail
  refine hc.out.mono ?_
  rintro e w1 ⟨v1, rfl, o1, x1⟩
  clear hc
  have k1 : Ext w1 (w1.drew.alloc (bytC w1 s)) := (Ext.refl _).drew.alloc _
  go_wp2_with (at_builtin; go_loud (refine wpList_append_B (w0 := w) rfl (.tmp 6) (.tmp 8) rfl v1 (numB s.size) rfl (o1.ext k1) (x1.trans k1) _ s.size (bytCap w1 s) s.data.toList rfl hsz (Bys.text w1 s) (by omega) ?_; intro v3 w3 o3 x3 _))
  go_ret
  exact ⟨_, rfl, hl.out ▸ o3, x3⟩

end Go.Proofs.YthpminlfbjedpaaDoor

namespace Go.Proofs.YthpminlfbjedpaaDoor
open Go.ChangeShapes Go.WideShapes Go.ChangeAt Go.RowKit Go.Sort
set_option linter.unusedVariables false
attribute [local go_sem] World.cell?_alloc_some

/-- what the slots hold -/
def idTab (w : World) (pp na nb : Nat) : SoftTab := [(3, fun z9 W => z9 = .pointer (some ⟨pp, 0, none⟩)),
  (4, fun z9 W => z9 = Vu na),
  (5, fun z9 W => OwnB w W z9 (numB na)),
  (6, fun z9 W => z9 = .pointer (some ⟨pp, 1, none⟩)),
  (7, fun z9 W => z9 = Vu nb),
  (8, fun z9 W => OwnB w W z9 (numB nb))]
theorem idTab_mono (w : World) (pp na nb : Nat) (Rel : World → World → Prop) (hR : ∀ W W', Rel W W' → Ext W W') : SoftMonoR Rel (idTab w pp na nb) := by
  intro p hp v W W' h hx
  simp only [idTab, List.mem_cons, List.not_mem_nil, or_false] at hp
  rcases hp with rfl | rfl | rfl | rfl | rfl | rfl
  all_goals first
    | exact h
    | exact OwnB.ext h (hR _ _ hx)

set_option maxRecDepth 100000 in
set_option maxHeartbeats 4000000 in
theorem idRef_any (na nb : Nat) (hna : na < 4294967296) (hnb : nb < 4294967296) (w0 : World) : Calls Tryd.prog 25 #[idv na nb] w0 (RetB w0 (numB na ++ numB nb)) := by
  have hla : (numB na).length ≤ 5 := by rw [numB_len]; have := lenB_le na; omega
  have hlb : (numB nb).length ≤ 5 := by rw [numB_len]; have := lenB_le nb; omega
  go_enter Tryd.func25, Tryd.ntmps25
  go_wp2
  have x0 : Ext w0 (w0.alloc (.cells #[.int .u32 na, .int .u32 nb] 47)) := (Ext.refl _).alloc _
  have c0 : (w0.alloc (.cells #[.int .u32 na, .int .u32 nb] 47)).cell? ⟨w0.heap.size, 0, none⟩ = some (Vu na) := by simp [go_sem]
  have c1 : (w0.alloc (.cells #[.int .u32 na, .int .u32 nb] 47)).cell? ⟨w0.heap.size, 1, none⟩ = some (Vu nb) := by simp [go_sem]
  generalize w0.alloc (.cells #[.int .u32 na, .int .u32 nb] 47) = w at *
  generalize w0.heap.size = pp at *
  refine wp_soft_frame Ext 6 (idTab w pp na nb) (by kernel_rfl) (by kernel_rfl) (fun _ _ _ => Ext.trans) ((Ext.refl _).drew) rfl (by show List.Nodup [3, 4, 5, 6, 7, 8]; decide) (by show ∀ d ∈ [3, 4, 5, 6, 7, 8], d < 10; decide) (idTab_mono w pp na nb _ (fun _ _ h => h)) ?_ ⟨?_, ?_, ?_, ?_, ?_, ?_, trivial⟩
  · intro W vs hT hR
    match vs, hT with
    | [v0, v1, v2, v3, v4, v5], ⟨e0, e1, e2, e3, e4, e5, _⟩ =>
      simp only [idTab, List.map_cons, List.map_nil, List.zip_cons_cons, List.zip_nil_left, putAll, List.setIfInBounds_toArray, List.set_cons_zero, List.set_cons_succ, List.drop_succ_cons, List.drop_zero]
      simp only at e0 e1 e2 e3 e4 e5
      rw [e0, e1, e3, e4]
      clear e0 e1 e3 e4 v0 v1 v3 v4
      obtain ⟨A, c, rfl, hc, hB⟩ := OwnB.open e5
      refine wpList_append_B (w0 := w0) rfl (.tmp 5) (.tmp 8) rfl _ (numB na) rfl (OwnB.down e2 x0) (x0.trans hR) A _ c (numB nb) rfl rfl hB (by omega) ?_
      intro v3 w3 o3 x3 _
      go_wp2
      go_ret
      exact ⟨_, rfl, o3, x3⟩
  · refine softR_val 3 _ (by kernel_rfl) rfl rfl ?_
    intro a W hx hout hdep
    have ev1 : a.tmps[1]?.getD undef = .pointer (some ⟨pp, 0, none⟩) := by rw [← Array.getD_eq_getD_getElem?]; exact hout 1 (by show 1 ∉ [3, 4, 5, 6, 7, 8]; decide)
    refine ⟨rfl, .pointer (some ⟨pp, 0, none⟩), W, ?_, rfl, Ext.refl _⟩
    simp [ev1, execOp, go_sem]
  · refine softR_val 4 _ (by kernel_rfl) rfl rfl ?_
    intro a W hx hout hdep
    have ev3 : a.tmps[3]?.getD undef = .pointer (some ⟨pp, 0, none⟩) := by rw [← Array.getD_eq_getD_getElem?]; exact (hdep ⟨0, .data⟩ (by simp) rfl 3 _ rfl).1
    have q0 := hx.keep c0
    refine ⟨rfl, Vu na, W, ?_, rfl, Ext.refl _⟩
    simp [ev3, q0, execOp, go_sem]
  · refine softR_call 5 _ (by kernel_rfl) rfl rfl ?_
    intro a W hx hout hdep
    have ev4 : a.tmps[4]?.getD undef = Vu na := by rw [← Array.getD_eq_getD_getElem?]; exact (hdep ⟨1, .data⟩ (by simp) rfl 4 _ rfl).1
    refine ⟨rfl, 24, #[Vu na], ?_, ?_⟩
    · simp [ev4, execOp, go_sem]
    · exact (number_any na hna W).mono (by rintro e W1 ⟨u, rfl, o, h⟩; exact ⟨_, rfl, o.down hx, h⟩)
  · refine softR_val 6 _ (by kernel_rfl) rfl rfl ?_
    intro a W hx hout hdep
    have ev1 : a.tmps[1]?.getD undef = .pointer (some ⟨pp, 0, none⟩) := by rw [← Array.getD_eq_getD_getElem?]; exact hout 1 (by show 1 ∉ [3, 4, 5, 6, 7, 8]; decide)
    refine ⟨rfl, .pointer (some ⟨pp, 1, none⟩), W, ?_, rfl, Ext.refl _⟩
    simp [ev1, execOp, go_sem]
  · refine softR_val 7 _ (by kernel_rfl) rfl rfl ?_
    intro a W hx hout hdep
    have ev6 : a.tmps[6]?.getD undef = .pointer (some ⟨pp, 1, none⟩) := by rw [← Array.getD_eq_getD_getElem?]; exact (hdep ⟨3, .data⟩ (by simp) rfl 6 _ rfl).1
    have q0 := hx.keep c1
    refine ⟨rfl, Vu nb, W, ?_, rfl, Ext.refl _⟩
    simp [ev6, q0, execOp, go_sem]
  · refine softR_call 8 _ (by kernel_rfl) rfl rfl ?_
    intro a W hx hout hdep
    have ev7 : a.tmps[7]?.getD undef = Vu nb := by rw [← Array.getD_eq_getD_getElem?]; exact (hdep ⟨4, .data⟩ (by simp) rfl 7 _ rfl).1
    refine ⟨rfl, 24, #[Vu nb], ?_, ?_⟩
    · simp [ev7, execOp, go_sem]
    · exact (number_any nb hnb W).mono (by rintro e W1 ⟨u, rfl, o, h⟩; exact ⟨_, rfl, o.down hx, h⟩)

end Go.Proofs.YthpminlfbjedpaaDoor

namespace Go.Proofs.YthpminlfbjedpaaDoor
open Go.ChangeShapes Go.WideShapes Go.ChangeAt Go.RowKit Go.Sort
set_option linter.unusedVariables false
attribute [local go_sem] World.cell?_alloc_some

/-- bytes are appended, with what becomes of the row's block -/
theorem wpList_append_B2 {w0 w : World} {ops : Array Oper} {rest : List Oper} {o : Oper} {a : Act} {Q : Exit → Act → World → Prop} (hgd : o.guard = none) (s x : Operand)
    (ho : o.op = .call { callee := .builtin .append, args := #[s, x], argTypes := #[26, 26] })
    (v : Value) (l : List UInt8) (hs : a.eval s = v) (hown : OwnB w0 w v l) (hx : Ext w0 w)
    (A : Option Addr) (m c : Nat) (r : List UInt8) (he : a.eval x = .slice A m c) (hm : r.length = m) (hr : Bys w A r) (hb : l.length + r.length ≤ 30000)
    (h : ∀ v' w', OwnB w0 w' v' (l ++ r) → Ext w0 w' → w.grownBy w' v.ownBlock → (v'.ownBlock = v.ownBlock ∨ v'.ownBlock = some w.heap.size) → wpList Tryd.prog ops Q rest (a.put o.dst v') w') : wpList Tryd.prog ops Q (o :: rest) a w := by
  refine wpList_plain hgd fun K hK => ?_
  obtain ⟨i, hi, hz0, hz1, hz2⟩ := info_parts infoB
  subst hm
  obtain ⟨v', w', hrun, h2, h3, h4⟩ := run_append_rowB (P := Tryd.prog) w w0.heap.size 26 o.type 5 i _ 1 1 Tryd.underlying26 hi hz0 hz1 hz2 rfl (by omega) v l.length _ hown A r.length c _ (by simp) hr (map_Vb_one r)
    (by unfold maxLen; omega) (by omega) hx.size
  unfold Oper.wp execOp
  simp only [ho, resolve, invoke, builtin, Sem.run_bind, Sem.run_pure, Result.andThen_ok, List.map_toArray, List.map_cons, List.map_nil, hs, he, hrun]
  refine hK _ _ (h v' w' ?_ (hx.grown h3 hown.lt) h3 h4)
  unfold OwnB OwnG
  rw [List.map_append, List.length_append]
  exact h2

theorem OwnN.kept {w W W' : World} {v : Value} {l : List Nat} {row : Option Nat} (h : OwnN w W v l) (hg : W.grownBy W' row) (hn : v.ownBlock = none ∨ v.ownBlock ≠ row) : OwnN w W' v l := World.ownsRow.kept h hg hn
theorem OwnN.lt {w W : World} {v : Value} {l : List Nat} (h : OwnN w W v l) : ∀ k, v.ownBlock = some k → w.heap.size ≤ k ∧ k < W.heap.size := World.ownsRow.lt h
/-- []uint32{..}: a row of the call's own -/
theorem OwnN.new {w0 W : World} (hx : Ext w0 W) (l : List Nat) (hl : l.length ≤ 3000) (cs : Array Value) (hc : cs = (l.map Vn).toArray) (n : Nat) (hn : l.length = n) : OwnN w0 (W.alloc (.cells cs 45)) (.slice (some ⟨W.heap.size, 0, none⟩) n n) l := by
  subst hc
  subst hn
  refine ⟨by simp, .inr ⟨W.heap.size, l.length, _, rfl, hx.size, heap_alloc_new W _, Nat.le_refl _, by unfold maxLen; omega, by simp, by simpa using List.take_of_length_le (by simp)⟩⟩
theorem nums_take {vs : List Nat} {k v : Nat} (h : vs[k]? = some v) : numsB (vs.take (k + 1)) = numsB (vs.take k) ++ numB v := by
  rw [List.take_add_one, h, numsB, numsB, List.flatMap_append]
  simp
theorem nums_len_take (vs : List Nat) (k : Nat) : (numsB (vs.take k)).length ≤ (numsB vs).length := by
  conv => rhs; rw [← List.take_append_drop k vs]
  rw [numsB, numsB, List.flatMap_append, List.length_append]
  omega

/-- the world has grown, and one row of the call's own in it: v has become v' -/
def GB (w w' : World) (v v' : Value) : Prop := w.grownBy w' v.ownBlock ∧ (v'.ownBlock = v.ownBlock ∨ ∃ g, v'.ownBlock = some g ∧ w.heap.size ≤ g)
theorem GB.refl (w : World) (v : Value) : GB w w v v := ⟨⟨rfl, rfl, rfl, Nat.le_refl _, fun _ _ _ => rfl⟩, .inl rfl⟩
theorem GB.ext {w w' : World} (h : Ext w w') (v : Value) : GB w w' v v := ⟨⟨RowKit.Below.os h, RowKit.Below.tape h, RowKit.Below.output h, h.size, fun k hk _ => RowKit.Below.block h k hk⟩, .inl rfl⟩
theorem GB.trans {w w1 w2 : World} {v v1 v2 : Value} (h : GB w w1 v v1) (k : GB w1 w2 v1 v2) : GB w w2 v v2 := by
  obtain ⟨h1, h2⟩ := h
  obtain ⟨k1, k2⟩ := k
  refine ⟨⟨k1.os.trans h1.os, k1.tape.trans h1.tape, k1.output.trans h1.output, Nat.le_trans h1.size k1.size, fun j hj hne => ?_⟩, ?_⟩
  · rw [k1.block j (Nat.lt_of_lt_of_le hj h1.size) ?_, h1.block j hj hne]
    rcases h2 with e | ⟨g, e, hg⟩
    · rw [e]; exact hne
    · rw [e]; intro he; injection he with he; omega
  · rcases k2 with e | ⟨g, e, hg⟩
    · rcases h2 with e' | ⟨g, e', hg⟩
      · exact .inl (e.trans e')
      · exact .inr ⟨g, e.trans e', hg⟩
    · exact .inr ⟨g, e, Nat.le_trans h1.size hg⟩
theorem GB.of {w w' : World} {v v' : Value} (h : w.grownBy w' v.ownBlock) (b : v'.ownBlock = v.ownBlock ∨ v'.ownBlock = some w.heap.size) : GB w w' v v' :=
  ⟨h, b.imp id fun e => ⟨_, e, Nat.le_refl _⟩⟩
theorem GB.down {w0 w w' : World} {v v' : Value} {o : List UInt8} (g : GB w w' v v') (hx : Ext w0 w) (ho : OwnB w0 w v o) : Ext w0 w' := hx.grown g.1 ho.lt
/-- a cell of a block that is not the row's -/
theorem GB.cell {w w' : World} {v v' : Value} (g : GB w w' v v') {q j : Nat} {x : Value} (h : w.cell? ⟨q, j, none⟩ = some x) (hne : v.ownBlock ≠ some q) : w'.cell? ⟨q, j, none⟩ = some x := by
  rw [World.cell?_of_block (w := w) (w' := w') (a := ⟨q, j, none⟩) (g.1.block q (World.block_lt_of_cell? _ _ h) (fun e => hne e.symm))]; exact h
/-- bytes of the call's own are told: v has become these -/
def RetG (w0 w : World) (v : Value) (l : List UInt8) (e : Ending) (w' : World) : Prop := ∃ v', e = .returned v' ∧ OwnB w0 w' v' l ∧ GB w w' v v'

/-- what addNumbers' loop keeps -/
def AddRel (w0 w : World) (v : Value) (o : List UInt8) (vs : List Nat) (u : Value) (v9 v0 : Value) (W : World) : Prop :=
  ∃ k : Nat, k ≤ vs.length ∧ v9 = Vi k ∧ Hid (OwnB w0 W v0 (o ++ numsB (vs.take k))) ∧ Hid (OwnN w0 W u vs) ∧ Hid (u.ownBlock = none ∨ u.ownBlock ≠ v0.ownBlock) ∧ Ext w0 W ∧ Hid (GB w W v v0)

set_option maxRecDepth 100000 in
set_option maxHeartbeats 4000000 in
theorem addNumbers_any (w0 w : World) (v : Value) (o : List UInt8) (ho : OwnB w0 w v o) (hx : Ext w0 w) (u : Value) (vs : List Nat) (hu : OwnN w0 w u vs) (hne : u.ownBlock = none ∨ u.ownBlock ≠ v.ownBlock)
    (hlt : ∀ x ∈ vs, x < 4294967296) (hL : o.length + (numsB vs).length ≤ 29000) (hn : vs.length ≤ 100) :
    Calls Tryd.prog 23 #[v, u] w (RetG w0 w v (o ++ numsB vs)) := by
  obtain ⟨A, c, hud, hc, hr0⟩ := OwnN.open hu
  have hu' := Lib.hid hu
  have ho' := Lib.hid (show OwnB w0 w v (o ++ numsB (vs.take 0)) by simpa [numsB] using ho)
  have hne' := Lib.hid hne
  have hud' := Lib.hid hud
  rw [hud]
  clear hu hne hr0 hud ho
  go_enter Tryd.func23, Tryd.ntmps23
  go_wp2
  go_loopw [9, 0] (AddRel w0 w v o vs u) (fun i _ _ => vs.length - (intOf i).toNat)
  case atStart => exact ⟨0, Nat.zero_le _, rfl, ho', hu', hne', hx, Lib.hid (GB.refl _ _)⟩
  case round =>
    clear ho' hu' hne' hx
    obtain ⟨k, hk, rfl, ho, hu, hne, hx, hG⟩ := hrel
    obtain ⟨A0, c0, e0, _, hrow⟩ := OwnN.open hu.out
    rw [hud'.out] at e0
    injection e0 with e0 _ e2
    subst e0
    subst e2
    by_cases hlt' : k < vs.length
    · obtain ⟨x, hxk⟩ : ∃ x, vs[k]? = some x := ⟨vs[k], List.getElem?_eq_getElem hlt'⟩
      obtain ⟨b, oo, e, hcell⟩ := hrow (by simpa using Nat.lt_of_le_of_lt (Nat.zero_le _) hlt')
      subst e
      have d0 := hcell k (Vn x) (by rw [List.getElem?_map, hxk]; rfl)
      have hx4 := hlt x (List.mem_of_getElem? hxk)
      have hst := Lib.hid (nums_take hxk)
      have hlen := nums_len_take vs (k + 1)
      rw [hst.out, List.length_append] at hlen
      have hc1 := Lib.hid (put_any x hx4 wr)
      clear hcell hrow hxk
      go_wp2_with fail
      refine hc1.out.mono ?_
      rintro e w1 ⟨v1, rfl, o1, x1⟩
      obtain ⟨A1, c1, rfl, hcc, hB1⟩ := OwnB.open o1
      have ho1 := Lib.hid (ho.out.ext x1)
      have hu1 := Lib.hid (hu.out.ext x1)
      have hG1 := Lib.hid (hG.out.trans (GB.ext x1 _))
      have hlt1 := OwnN.lt hu1.out
      clear hc1 o1 hG
      go_wp2_with (at_builtin; go_loud (refine wpList_append_B2 (w0 := w0) rfl (.tmp 13) (.tmp 15) rfl _ (o ++ numsB (vs.take k)) rfl ho1.out (hx.trans x1) A1 _ c1 (numB x) rfl rfl hB1 (by rw [List.length_append]; omega) ?_; intro v3 w3 o3 x3 g3 b3))
      go_roundw
      case rel =>
        refine ⟨k + 1, by omega, by go_num, Lib.hid (by rw [hst.out, ← List.append_assoc]; exact o3), Lib.hid (hu1.out.kept g3 hne.out), Lib.hid ?_, x3, Lib.hid (hG1.out.trans (GB.of g3 b3))⟩
        rcases hne.out with h | h
        · exact .inl h
        · rcases b3 with b3 | b3
          · exact .inr (by rw [b3]; exact h)
          · rw [b3]
            rcases hob : u.ownBlock with _ | g
            · exact .inl rfl
            · refine .inr fun he => ?_
              injection he with he
              have := (hlt1 g hob).2
              omega
      case measure => simp [intOf]; omega
    · have hkk : k = vs.length := by omega
      have hfin := Lib.hid (show vs.take k = vs by rw [hkk, List.take_length])
      rw [hfin.out] at ho
      clear hrow
      go_wp2
      go_ret
      exact ⟨_, rfl, ho.out, hG.out⟩

theorem Vu_nat {x : Int} (h : 0 ≤ x) : Vu x = Vn x.toNat := by
  show Value.int .u32 x = Value.int .u32 ((x.toNat : Nat) : Int)
  rw [Int.toNat_of_nonneg h]
theorem own_new_ne {w0 W : World} {v : Value} {o : List UInt8} (h : OwnB w0 W v o) (n : Nat) : (Value.slice (some ⟨W.heap.size, 0, none⟩) n n).ownBlock = none ∨ (Value.slice (some ⟨W.heap.size, 0, none⟩) n n).ownBlock ≠ v.ownBlock := by
  refine .inr fun he => ?_
  have := World.ownsRow.lt h W.heap.size (by rw [← he]; rfl)
  omega
/-- two numbers, in memory of the call's own -/
theorem two_new {w0 W : World} (hx : Ext w0 W) {x y : Int} (h0 : 0 ≤ x) (h1 : 0 ≤ y) : OwnN w0 (W.alloc (.cells #[.int .u32 x, .int .u32 y] 45)) (.slice (some ⟨W.heap.size, 0, none⟩) 2 2) [x.toNat, y.toNat] :=
  OwnN.new hx [x.toNat, y.toNat] (by simp) _ (by simp [Int.toNat_of_nonneg h0, Int.toNat_of_nonneg h1]) 2 rfl
theorem three_new {w0 W : World} (hx : Ext w0 W) {x y z : Int} (h0 : 0 ≤ x) (h1 : 0 ≤ y) (h2 : 0 ≤ z) : OwnN w0 (W.alloc (.cells #[.int .u32 x, .int .u32 y, .int .u32 z] 45)) (.slice (some ⟨W.heap.size, 0, none⟩) 3 3) [x.toNat, y.toNat, z.toNat] :=
  OwnN.new hx [x.toNat, y.toNat, z.toNat] (by simp) _ (by simp [Int.toNat_of_nonneg h0, Int.toNat_of_nonneg h1, Int.toNat_of_nonneg h2]) 3 rfl

/-- what addRun's loop keeps -/
def RunRel (w0 w : World) (v : Value) (o : List UInt8) (r : Rn) (v14 v0 : Value) (W : World) : Prop :=
  ∃ k : Nat, k ≤ 3 ∧ v14 = Vi k ∧ Hid (OwnB w0 W v0 (o ++ numsB ((runN r).take (2 * k)))) ∧ Ext w0 W ∧ Hid (GB w W v v0)

/-- one round of addRun's loop, as calls -/
theorem addTwo_any (w0 W : World) (v0 : Value) (o : List UInt8) (x y : Int) (ho : OwnB w0 W v0 o) (hx : Ext w0 W) (hL : o.length + (numsB [x.toNat, y.toNat]).length ≤ 29000) (hx0 : 0 ≤ x ∧ x ≤ 4294967295) (hy0 : 0 ≤ y ∧ y ≤ 4294967295) (g : Nat) (hg : W.heap.size = g) :
    Calls Tryd.prog 23 #[v0, .slice (some ⟨g, 0, none⟩) 2 2] (W.alloc (.cells #[.int .u32 x, .int .u32 y] 45)) (RetG w0 W v0 (o ++ numsB [x.toNat, y.toNat])) := by
  subst hg
  refine (addNumbers_any w0 _ v0 o (ho.ext ((Ext.refl _).alloc _)) (hx.alloc _) _ _ (two_new hx hx0.1 hy0.1) (own_new_ne ho 2) (by simp; omega) hL (by simp)).mono ?_
  rintro e w' ⟨v', rfl, h1, h2⟩
  exact ⟨v', rfl, h1, (GB.ext ((Ext.refl _).alloc _) _).trans h2⟩
theorem addThree_any (w0 W : World) (v0 : Value) (o : List UInt8) (x y z : Int) (ho : OwnB w0 W v0 o) (hx : Ext w0 W) (hL : o.length + (numsB [x.toNat, y.toNat, z.toNat]).length ≤ 29000) (hx0 : 0 ≤ x ∧ x ≤ 4294967295) (hy0 : 0 ≤ y ∧ y ≤ 4294967295) (hz0 : 0 ≤ z ∧ z ≤ 4294967295) (g : Nat) (hg : W.heap.size = g) :
    Calls Tryd.prog 23 #[v0, .slice (some ⟨g, 0, none⟩) 3 3] (W.alloc (.cells #[.int .u32 x, .int .u32 y, .int .u32 z] 45)) (RetG w0 W v0 (o ++ numsB [x.toNat, y.toNat, z.toNat])) := by
  subst hg
  refine (addNumbers_any w0 _ v0 o (ho.ext ((Ext.refl _).alloc _)) (hx.alloc _) _ _ (three_new hx hx0.1 hy0.1 hz0.1) (own_new_ne ho 3) (by simp; omega) hL (by simp)).mono ?_
  rintro e w' ⟨v', rfl, h1, h2⟩
  exact ⟨v', rfl, h1, (GB.ext ((Ext.refl _).alloc _) _).trans h2⟩

set_option maxRecDepth 100000 in
set_option maxHeartbeats 4000000 in
theorem addRun_any (w0 w : World) (v : Value) (o : List UInt8) (r : Rn) (ho : OwnB w0 w v o) (hx : Ext w0 w) (hr : wfR r) (ht : r.t.length ≤ 20000) (hL : o.length + (runB r).length ≤ 28000) :
    Calls Tryd.prog 22 #[v, rnv r] w (RetG w0 w v (o ++ runB r)) := by
  have hr' := hr
  unfold wfR at hr'
  have hrl : (runB r).length = (numsB (runN r)).length + (putT r.t).length := by rw [runB, List.length_append]
  have hpt : r.t.length ≤ (putT r.t).length := by rw [putT, List.length_append]; omega
  have hsz : (⟨r.t.toArray⟩ : ByteArray).size = r.t.length := by show r.t.toArray.size = _; simp
  have hn4 : (numsB (runN r)).length = (numsB ((runN r).take 0)).length + (numsB [r.c.toNat, r.k.toNat]).length + (numsB [r.lc.toNat, r.lk.toNat]).length + (numsB [r.rc.toNat, r.rk.toNat]).length := by
    simp [numsB, runN, List.length_append]; omega
  have ha1 := nums_len_take (runN r) 2
  have ha2 := nums_len_take (runN r) 4
  have e1 : numsB ((runN r).take 0) ++ numsB [r.c.toNat, r.k.toNat] = numsB ((runN r).take (2 * 1)) := by simp [numsB, runN]
  have e2 : numsB ((runN r).take (2 * 1)) ++ numsB [r.lc.toNat, r.lk.toNat] = numsB ((runN r).take (2 * 2)) := by simp [numsB, runN]
  have e3 : numsB ((runN r).take (2 * 2)) ++ numsB [r.rc.toNat, r.rk.toNat] = numsB ((runN r).take (2 * 3)) := by simp [numsB, runN]
  have e4 : numsB ((runN r).take (2 * 3)) ++ putT r.t = runB r := by simp [numsB, runN, runB]
  have z0 : (numsB ((runN r).take (2 * 0))).length = 0 := rfl
  have z1 : (numsB ((runN r).take (2 * 1))).length = (numsB [r.c.toNat, r.k.toNat]).length := by rw [← e1]; simp [numsB]
  have z2 : (numsB ((runN r).take (2 * 2))).length = (numsB [r.c.toNat, r.k.toNat]).length + (numsB [r.lc.toNat, r.lk.toNat]).length := by rw [← e2, List.length_append, z1]
  have i0 : ∀ W : World, (Instr.index 81 (.agg #[.int .u32 r.c, .int .u32 r.k, .int .u32 r.lc, .int .u32 r.lk, .int .u32 r.rc, .int .u32 r.rk]) (.int .i64 0)).run Tryd.prog W = .ok (idv r.c r.k) W := fun _ => by kernel_rfl
  have i1 : ∀ W : World, (Instr.index 81 (.agg #[.int .u32 r.c, .int .u32 r.k, .int .u32 r.lc, .int .u32 r.lk, .int .u32 r.rc, .int .u32 r.rk]) (.int .i64 1)).run Tryd.prog W = .ok (idv r.lc r.lk) W := fun _ => by kernel_rfl
  have i2 : ∀ W : World, (Instr.index 81 (.agg #[.int .u32 r.c, .int .u32 r.k, .int .u32 r.lc, .int .u32 r.lk, .int .u32 r.rc, .int .u32 r.rk]) (.int .i64 2)).run Tryd.prog W = .ok (idv r.rc r.rk) W := fun _ => by kernel_rfl
  have hlt := Lib.hid ho.lt
  have hlt2 : v.ownBlock ≠ some w.heap.size := fun he => by have := (World.ownsRow.lt ho _ he).2; omega
  replace hlt2 := Lib.hid hlt2
  replace e1 := Lib.hid e1
  replace e2 := Lib.hid e2
  replace e3 := Lib.hid e3
  replace e4 := Lib.hid e4
  have hput := Lib.hid (fun W => putText_any ⟨r.t.toArray⟩ (by rw [hsz]; omega) W)
  have ho' := Lib.hid (show OwnB w0 (w.alloc (.cells #[.int .u32 r.c, .int .u32 r.k, .int .u32 r.lc, .int .u32 r.lk, .int .u32 r.rc, .int .u32 r.rk, .string ⟨r.t.toArray⟩] 49)) v (o ++ numsB ((runN r).take (2 * 0))) by
    have := ho.ext ((Ext.refl w).alloc (.cells #[.int .u32 r.c, .int .u32 r.k, .int .u32 r.lc, .int .u32 r.lk, .int .u32 r.rc, .int .u32 r.rk, .string ⟨r.t.toArray⟩] 49))
    simpa [numsB] using this)
  have hG0 := Lib.hid (GB.ext ((Ext.refl w).alloc (.cells #[.int .u32 r.c, .int .u32 r.k, .int .u32 r.lc, .int .u32 r.lk, .int .u32 r.rc, .int .u32 r.rk, .string ⟨r.t.toArray⟩] 49)) v)
  have x0 := hx.alloc (.cells #[.int .u32 r.c, .int .u32 r.k, .int .u32 r.lc, .int .u32 r.lk, .int .u32 r.rc, .int .u32 r.rk, .string ⟨r.t.toArray⟩] 49)
  have a6 : (w.alloc (.cells #[.int .u32 r.c, .int .u32 r.k, .int .u32 r.lc, .int .u32 r.lk, .int .u32 r.rc, .int .u32 r.rk, .string ⟨r.t.toArray⟩] 49)).cell? ⟨w.heap.size, 6, none⟩ = some (.string ⟨r.t.toArray⟩) := by simp [go_sem]
  clear ho hx hlt hsz
  go_enter Tryd.func22, Tryd.ntmps22
  go_wp2
  generalize w.alloc (.cells #[.int .u32 r.c, .int .u32 r.k, .int .u32 r.lc, .int .u32 r.lk, .int .u32 r.rc, .int .u32 r.rk, .string ⟨r.t.toArray⟩] 49) = w1 at *
  generalize w.heap.size = pa at *
  go_loopw [14, 0] (RunRel w0 w1 v o r) (fun i _ _ => 3 - (intOf i).toNat)
  case atStart => exact ⟨0, by omega, rfl, ho', x0, Lib.hid (GB.refl _ _)⟩
  case round =>
    clear ho' x0
    obtain ⟨k, hk, rfl, ho, hx, hG⟩ := hrel
    have hkk : k = 0 ∨ k = 1 ∨ k = 2 ∨ k = 3 := by omega
    rcases hkk with rfl | rfl | rfl | rfl
    · have hc1 := Lib.hid (addTwo_any w0 (wr.alloc (.cells #[.int .u32 r.c, .int .u32 r.k] 47)) _ _ r.c r.k (ho.out.ext ((Ext.refl _).alloc _)) (hx.alloc _) (by rw [List.length_append]; omega) (by omega) (by omega) (wr.heap.size + 1) (by simp))
      have ho1 := Lib.hid (ho.out.ext ((Ext.refl wr).alloc (.cells #[.int .u32 r.c, .int .u32 r.k] 47)))
      go_wp2_with fail
      refine hc1.out.mono ?_
      rintro e w2 ⟨v2, rfl, o2, g2⟩
      go_wp2
      go_roundw
      case rel => exact ⟨1, by omega, by go_num, Lib.hid (by rw [← e1.out, ← List.append_assoc]; exact o2), g2.down (hx.alloc _) ho1.out, Lib.hid ((hG.out.trans (GB.ext ((Ext.refl _).alloc _) _)).trans g2)⟩
      case measure => simp [intOf]
    · have hc1 := Lib.hid (addTwo_any w0 (wr.alloc (.cells #[.int .u32 r.lc, .int .u32 r.lk] 47)) _ _ r.lc r.lk (ho.out.ext ((Ext.refl _).alloc _)) (hx.alloc _) (by rw [List.length_append]; omega) (by omega) (by omega) (wr.heap.size + 1) (by simp))
      have ho1 := Lib.hid (ho.out.ext ((Ext.refl wr).alloc (.cells #[.int .u32 r.lc, .int .u32 r.lk] 47)))
      go_wp2_with fail
      refine hc1.out.mono ?_
      rintro e w2 ⟨v2, rfl, o2, g2⟩
      go_wp2
      go_roundw
      case rel => exact ⟨2, by omega, by go_num, Lib.hid (by rw [← e2.out, ← List.append_assoc]; exact o2), g2.down (hx.alloc _) ho1.out, Lib.hid ((hG.out.trans (GB.ext ((Ext.refl _).alloc _) _)).trans g2)⟩
      case measure => simp [intOf]
    · have hc1 := Lib.hid (addTwo_any w0 (wr.alloc (.cells #[.int .u32 r.rc, .int .u32 r.rk] 47)) _ _ r.rc r.rk (ho.out.ext ((Ext.refl _).alloc _)) (hx.alloc _) (by rw [List.length_append]; omega) (by omega) (by omega) (wr.heap.size + 1) (by simp))
      have ho1 := Lib.hid (ho.out.ext ((Ext.refl wr).alloc (.cells #[.int .u32 r.rc, .int .u32 r.rk] 47)))
      go_wp2_with fail
      refine hc1.out.mono ?_
      rintro e w2 ⟨v2, rfl, o2, g2⟩
      go_wp2
      go_roundw
      case rel => exact ⟨3, by omega, by go_num, Lib.hid (by rw [← e3.out, ← List.append_assoc]; exact o2), g2.down (hx.alloc _) ho1.out, Lib.hid ((hG.out.trans (GB.ext ((Ext.refl _).alloc _) _)).trans g2)⟩
      case measure => simp [intOf]
    · have z3 := nums_len_take (runN r) (2 * 3)
      have b6 := (hG.out).cell a6 hlt2.out
      have hput1 := Lib.hid (hput.out wr)
      have hol := Lib.hid (show (o ++ numsB ((runN r).take (2 * 3))).length ≤ 28000 by rw [List.length_append]; have := nums_len_take (runN r) (2 * 3); omega)
      go_wp2_with fail
      refine hput1.out.mono ?_
      rintro e w2 ⟨v2, rfl, o2, x2⟩
      obtain ⟨A2, c2, rfl, hcc, hB2⟩ := OwnB.open o2
      have ho2 := Lib.hid (ho.out.ext x2)
      go_wp2_with (at_builtin; go_loud (refine wpList_append_B2 (w0 := w0) rfl (.tmp 25) (.tmp 28) rfl _ (o ++ numsB ((runN r).take (2 * 3))) rfl ho2.out (hx.trans x2) A2 _ c2 (putT r.t) rfl rfl hB2 (by rw [List.length_append]; omega) ?_; intro v3 w3 o3 x3 g3 b3))
      go_ret
      refine ⟨_, rfl, ?_, ((hG0.out.trans hG.out).trans (GB.ext x2 _)).trans (GB.of g3 b3)⟩
      rw [← e4.out, ← List.append_assoc]
      exact o3

/-- what Put answers -/
def PutRet (w : World) (may : Bool) (L : List UInt8) (e : Ending) (w' : World) : Prop := match may with
  | true => ∃ v, e = .returned (.tuple #[v, .nilIface]) ∧ OwnB w w' v L ∧ Ext w w'
  | false => e = .returned (.tuple #[.slice none 0 0, errv 1]) ∧ Ext w w'

theorem flat_take1 {α : Type} {f : α → List UInt8} {l : List α} {k : Nat} {a : α} (h : l[k]? = some a) : (l.take (k + 1)).flatMap f = (l.take k).flatMap f ++ f a := by
  rw [List.take_add_one, h, List.flatMap_append]
  simp
theorem flat_pre {α : Type} (f : α → List UInt8) (l : List α) (k : Nat) : ((l.take k).flatMap f).length ≤ (l.flatMap f).length := by
  conv => rhs; rw [← List.take_append_drop k l]
  rw [List.flatMap_append, List.length_append]
  omega
/-- what Put's loops keep -/
def PutLoop (w1 : World) (n : Nat) (P : Nat → List UInt8) (v21 v4 : Value) (W : World) : Prop :=
  ∃ k : Nat, k ≤ n ∧ v21 = Vi k ∧ Hid (OwnB w1 W v4 (P k)) ∧ Ext w1 W

set_option maxRecDepth 100000 in
set_option maxHeartbeats 4000000 in
theorem putBat_any (A : Option Addr) (n c : Nat) (B : Option Addr) (m d : Nat) (rs : List Rn) (ds : List Sp) (w : World) (hT : Tabs w) (hv : RnS w A rs) (hn : rs.length = n) (hS : SpS w B ds) (hm : ds.length = m)
    (hw : ∀ r ∈ rs, wfR r ∧ r.t.length ≤ 20000) (hds : wfS ds) (hb : m ≤ 1000) (hbn : n ≤ 10000) (hL : (batB rs ds).length ≤ 20000) :
    Calls Tryd.prog 8 #[batv A n c B m d] w (PutRet w (mayB rs ds) (batB rs ds)) := by
  have hmay := Lib.hid (fun W (hX : Ext w W) => mayBat_any A n c B m d rs ds W (hT.ext hX) (hv.ext hX) hn (hS.ext hX) hm (fun r hr => ⟨(hw r hr).1, by have := (hw r hr).2; omega⟩) hds hb (by omega))
  cases hmb : mayB rs ds with
  | false =>
    rw [hmb] at hmay
    clear hmb
    go_enter Tryd.func8, Tryd.ntmps8
    go_wp2_with fail
    refine (hmay.out _ ((Ext.refl _).alloc _)).mono ?_
    rintro e w1 ⟨rfl, x1⟩
    go_wp2
    exact bodyPost_ret (v := .tuple #[.slice none 0 0, errv 1]) (by simp [results, Tryd.results8, go_sem, errv]) rfl ⟨rfl, ((Ext.refl _).alloc _).trans x1⟩
  | true =>
    rw [hmb] at hmay
    clear hmb
    have hlen : (batB rs ds).length = (numB n).length + (rs.flatMap runB).length + (numB m).length + (ds.flatMap spanB).length := by rw [batB, hn, hm]; simp only [List.length_append]
    have hfin := Lib.hid (show numB n ++ rs.flatMap runB ++ numB m ++ ds.flatMap spanB = batB rs ds by rw [batB, hn, hm])
    have hp1 := Lib.hid (fun W => put_any n (by omega) W)
    have hp2 := Lib.hid (fun W => put_any m (by omega) W)
    replace hv := Lib.hid hv
    replace hn := Lib.hid hn
    replace hS := Lib.hid hS
    replace hm := Lib.hid hm
    replace hw := Lib.hid hw
    replace hds := Lib.hid hds
    rw [hlen] at hL
    clear hlen hT
    go_enter Tryd.func8, Tryd.ntmps8
    go_wp2_with fail
    refine (hmay.out _ ((Ext.refl _).alloc _)).mono ?_
    rintro e w1 ⟨rfl, x1⟩
    have a0 := x1.keep (p := ⟨w.heap.size, 0, none⟩) (v := .slice A n c) (by simp [go_sem])
    have a1 := x1.keep (p := ⟨w.heap.size, 1, none⟩) (v := .slice B m d) (by simp [go_sem])
    have hX1 : Ext w w1 := ((Ext.refl _).alloc _).trans x1
    clear x1 hmay
    generalize w.heap.size = pa at *
    go_wp2_with fail
    refine (hp1.out w1).mono ?_
    rintro e w2 ⟨v2, rfl, o2, x2⟩
    have b0 := x2.keep a0
    replace o2 := Lib.hid o2
    clear hp1
    go_wp2
    go_loopw [21, 4] (PutLoop w1 n fun k => numB n ++ (rs.take k).flatMap runB) (fun i _ _ => n - (intOf i).toNat)
    case atStart => exact ⟨0, Nat.zero_le _, rfl, Lib.hid (by simpa using o2.out), x2⟩
    case round =>
      clear o2 x2 b0
      obtain ⟨k, hk, rfl, ho, hx⟩ := hrel
      by_cases hlt : k < n
      · obtain ⟨b, o, r, rfl, hp, dd⟩ := hv.out.at (k := k) (by rw [hn.out]; exact hlt)
        obtain ⟨hwr, hrt⟩ := hw.out r (List.mem_of_getElem? hp)
        obtain ⟨c0, c1, c2, c3, c4, c5, c6⟩ := dd.ext (hX1.trans hx)
        have hst := Lib.hid (flat_take1 (f := runB) hp)
        have hpre := flat_pre runB rs (k + 1)
        rw [hst.out, List.length_append] at hpre
        have ho1 := Lib.hid (ho.out.ext ((Ext.refl wr).alloc (.cells #[.int .u32 r.c, .int .u32 r.k, .int .u32 r.lc, .int .u32 r.lk, .int .u32 r.rc, .int .u32 r.rk, .string ⟨r.t.toArray⟩] 49)))
        have hc1 := Lib.hid (addRun_any w1 _ _ _ r ho1.out (hx.alloc _) hwr hrt (by rw [List.length_append]; omega))
        clear hp dd
        go_wp2_with fail
        refine hc1.out.mono ?_
        rintro e w3 ⟨v3, rfl, o3, g3⟩
        go_wp2
        go_roundw
        case rel => exact ⟨k + 1, by omega, by go_num, Lib.hid (by have e := hst.out; simp only at e ⊢; rw [e, ← List.append_assoc]; exact o3), g3.down (hx.alloc _) ho1.out⟩
        case measure => simp [intOf]; omega
      · have hkk : k = n := by omega
        have hfull : rs.take k = rs := List.take_of_length_le (by rw [hn.out]; omega)
        replace ho := Lib.hid (show OwnB w1 wr _ (numB n ++ rs.flatMap runB) by have h := ho.out; simp only [hfull] at h; exact h)
        clear hfull hlt
        have b1 := hx.keep a1
        go_wp2_with fail
        refine (hp2.out wr).mono ?_
        rintro e w3 ⟨v3, rfl, o3, x3⟩
        obtain ⟨A3, c3, rfl, hcc, hB3⟩ := OwnB.open o3
        have ho3 := Lib.hid (ho.out.ext x3)
        clear o3 hp2 ho
        go_wp2_with (at_builtin; go_loud (refine wpList_append_B (w0 := w1) rfl (.tmp 29) (.tmp 34) rfl _ (numB n ++ rs.flatMap runB) rfl ho3.out (hx.trans x3) A3 _ c3 (numB m) rfl rfl hB3 (by rw [List.length_append]; omega) ?_; intro v4 w4 o4 x4 _; have b4 := x4.keep a1))
        replace o4 := Lib.hid o4
        clear ho3 hB3 b1
        go_loopw [39, 4] (PutLoop w1 m fun k => numB n ++ rs.flatMap runB ++ numB m ++ (ds.take k).flatMap spanB) (fun i _ _ => m - (intOf i).toNat)
        case atStart => exact ⟨0, Nat.zero_le _, rfl, Lib.hid (by simpa using o4.out), x4⟩
        case round =>
          clear o4 x4 b4
          obtain ⟨k, hk, rfl, ho, hx⟩ := hrel
          by_cases hlt : k < m
          · obtain ⟨b, o, x, y, z, rfl, hp, d0, d1, d2⟩ := hS.out.at (k := k) (by rw [hm.out]; exact hlt)
            have hwf := wfS_at hds.out hp
            have c0 := (hX1.trans hx).keep d0
            have c1 := (hX1.trans hx).keep d1
            have c2 := (hX1.trans hx).keep d2
            have hst := Lib.hid (flat_take1 (f := spanB) hp)
            have hpre := flat_pre spanB ds (k + 1)
            rw [hst.out, List.length_append] at hpre
            have hsl : (spanB (x, y, z)).length = (numsB [x.toNat, y.toNat, z.toNat]).length := rfl
            have ho1 := Lib.hid (ho.out.ext ((Ext.refl wr).alloc (.cells #[.int .u32 x, .int .u32 y, .int .u32 z] 62)))
            have hc1 := Lib.hid (addThree_any w1 (wr.alloc (.cells #[.int .u32 x, .int .u32 y, .int .u32 z] 62)) _ _ x y z ho1.out (hx.alloc _) (by simp only [List.length_append]; omega) (by omega) (by omega) (by omega) (wr.heap.size + 1) (by simp))
            clear hp d0 d1 d2
            go_wp2_with fail
            refine hc1.out.mono ?_
            rintro e w3 ⟨v3, rfl, o3, g3⟩
            go_wp2
            go_roundw
            case rel => exact ⟨k + 1, by omega, by go_num, Lib.hid (by have e := hst.out; simp only at e ⊢; rw [e, ← List.append_assoc]; exact o3), g3.down (hx.alloc _) ho1.out⟩
            case measure => simp [intOf]; omega
          · have hfull : ds.take k = ds := List.take_of_length_le (by rw [hm.out]; omega)
            replace ho := Lib.hid (show OwnB w1 wr _ (batB rs ds) by have h := ho.out; simp only [hfull] at h; rw [← hfin.out]; exact h)
            obtain ⟨A4, c4, rfl, hcc4, _⟩ := OwnB.open ho.out
            have hg : decide ((20000 : Int) < ((batB rs ds).length : Int)) = false := by
              rw [decide_eq_false_iff_not, ← hfin.out]
              simp only [List.length_append]
              omega
            clear hfull
            go_wp2
            exact bodyPost_ret (v := .tuple #[_, .nilIface]) (by simp [results, Tryd.results8, go_sem]) rfl ⟨_, rfl, ho.out.down hX1, hX1.trans hx⟩

end Go.Proofs.YthpminlfbjedpaaDoor

namespace Go.Proofs.YthpminlfbjedpaaDoor
open Go.ChangeShapes Go.WideShapes Go.ChangeAt Go.RowKit Go.Sort
set_option linter.unusedVariables false
attribute [local go_sem] World.cell?_alloc_some

theorem idN_any (a b : Int) (w : World) (ha : 0 ≤ a ∧ a ≤ 4294967295) (hb : 0 ≤ b ∧ b ≤ 4294967295) : Calls Tryd.prog 25 #[idv a b] w (RetB w (numB a.toNat ++ numB b.toNat)) := by
  have h := idRef_any a.toNat b.toNat (by omega) (by omega) w
  rwa [show ((a.toNat : Nat) : Int) = a by omega, show ((b.toNat : Nat) : Int) = b by omega] at h
theorem numN_any (a : Int) (w : World) (ha : 0 ≤ a ∧ a ≤ 4294967295) : Calls Tryd.prog 24 #[Vu a] w (RetB w (numB a.toNat)) := by
  have h := number_any a.toNat (by omega) w
  rwa [show ((a.toNat : Nat) : Int) = a by omega] at h
theorem runB_four (r : Rn) : runB r = (numB r.c.toNat ++ numB r.k.toNat) ++ (numB r.lc.toNat ++ numB r.lk.toNat) ++ (numB r.rc.toNat ++ numB r.rk.toNat) ++ putT r.t := by
  simp [runB, runN, numsB]
theorem spanB_three (x y z : Int) : spanB (x, y, z) = numB x.toNat ++ numB y.toNat ++ numB z.toNat := by simp [spanB, spanN, numsB]

/-- what the reference's Batch answers -/
def BatRet (w : World) (may : Bool) (L : List UInt8) (e : Ending) (w' : World) : Prop := match may with
  | true => ∃ v, e = .returned (.tuple #[v, .bool true]) ∧ OwnB w w' v L ∧ Ext w w'
  | false => e = .returned (.tuple #[.slice none 0 0, .bool false]) ∧ Ext w w'

set_option maxRecDepth 100000 in
set_option maxHeartbeats 16000000 in
theorem batRef_any (A : Option Addr) (n c : Nat) (B : Option Addr) (m d : Nat) (rs : List Rn) (ds : List Sp) (w : World) (hv : RnS w A rs) (hn : rs.length = n) (hS : SpS w B ds) (hm : ds.length = m)
    (hw : ∀ r ∈ rs, wfR r ∧ r.t.length ≤ 20000) (hds : wfS ds) (hb : m ≤ 1000) (hbn : n ≤ 10000) (hI : rs.all mayN = true → (itemsOf rs).length ≤ 10000) (hL : (batB rs ds).length ≤ 20000) :
    Calls Tryd.prog 9 #[batv A n c B m d] w (BatRet w (mayB rs ds) (batB rs ds)) := by
  have hmay := Lib.hid (fun W (hX : Ext w W) => mayBatRef_any A n c B m d rs ds W (hv.ext hX) hn (hS.ext hX) hm (fun r hr => ⟨(hw r hr).1, by have := (hw r hr).2; omega⟩) hds hb hbn hI)
  cases hmb : mayB rs ds with
  | false =>
    rw [hmb] at hmay
    clear hmb
    go_enter Tryd.func9, Tryd.ntmps9
    go_wp2_with fail
    refine (hmay.out _ ((Ext.refl _).alloc _)).mono ?_
    rintro e w1 ⟨rfl, x1⟩
    go_wp2
    exact bodyPost_ret (v := .tuple #[.slice none 0 0, .bool false]) (by simp [results, Tryd.results9, go_sem]) rfl ⟨rfl, ((Ext.refl _).alloc _).trans x1⟩
  | true =>
    rw [hmb] at hmay
    clear hmb
    have hlen : (batB rs ds).length = (numB n).length + (rs.flatMap runB).length + (numB m).length + (ds.flatMap spanB).length := by rw [batB, hn, hm]; simp only [List.length_append]
    have hfin := Lib.hid (show numB n ++ rs.flatMap runB ++ numB m ++ ds.flatMap spanB = batB rs ds by rw [batB, hn, hm])
    have hp1 := Lib.hid (fun W => number_any n (by omega) W)
    have hp2 := Lib.hid (fun W => number_any m (by omega) W)
    replace hv := Lib.hid hv
    replace hn := Lib.hid hn
    replace hS := Lib.hid hS
    replace hm := Lib.hid hm
    replace hw := Lib.hid hw
    replace hds := Lib.hid hds
    rw [hlen] at hL
    clear hlen hI
    go_enter Tryd.func9, Tryd.ntmps9
    go_wp2_with fail
    refine (hmay.out _ ((Ext.refl _).alloc _)).mono ?_
    rintro e w1 ⟨rfl, x1⟩
    have a0 := x1.keep (p := ⟨w.heap.size, 0, none⟩) (v := .slice A n c) (by simp [go_sem])
    have a1 := x1.keep (p := ⟨w.heap.size, 1, none⟩) (v := .slice B m d) (by simp [go_sem])
    have hX1 : Ext w w1 := ((Ext.refl _).alloc _).trans x1
    clear x1 hmay
    generalize w.heap.size = pa at *
    go_wp2_with fail
    refine (hp1.out w1).mono ?_
    rintro e w2 ⟨v2, rfl, o2, x2⟩
    replace o2 := Lib.hid o2
    clear hp1
    go_wp2
    go_loopw [6, 5] (PutLoop w1 n fun k => numB n ++ (rs.take k).flatMap runB) (fun i _ _ => n - (intOf i).toNat)
    case atStart => exact ⟨0, Nat.zero_le _, rfl, Lib.hid (by simpa using o2.out), x2⟩
    case round =>
      clear o2 x2
      obtain ⟨k, hk, rfl, ho, hx⟩ := hrel
      have y0 := hx.keep a0
      by_cases hlt : k < n
      · obtain ⟨b, oo, r, rfl, hp, dd⟩ := hv.out.at (k := k) (by rw [hn.out]; exact hlt)
        obtain ⟨hwr, hrt⟩ := hw.out r (List.mem_of_getElem? hp)
        unfold wfR at hwr
        obtain ⟨q0, q1, q2, q3, q4, q5, q6⟩ := dd.ext hX1
        have c0 := hx.keep q0
        have c1 := hx.keep q1
        have hst := Lib.hid (flat_take1 (f := runB) hp)
        have hpre := flat_pre runB rs (k + 1)
        rw [hst.out, List.length_append, runB_four] at hpre
        simp only [List.length_append] at hpre
        have hsz : (⟨r.t.toArray⟩ : ByteArray).size = r.t.length := by show r.t.toArray.size = _; simp
        have hi1 : (0 : Int) ≤ (k : Int) := by omega
        have hi2 : (k : Int) < (n : Int) := by omega
        replace ho := ho.out
        simp only at ho
        obtain ⟨o, hod⟩ : ∃ o, numB n ++ (rs.take k).flatMap runB = o := ⟨_, rfl⟩
        rw [hod] at ho
        have hol : o.length = (numB n).length + ((rs.take k).flatMap runB).length := by rw [← hod, List.length_append]
        replace hod := Lib.hid hod
        clear hp dd
        go_wp2_with fail
        refine (idN_any r.c r.k _ (by omega) (by omega)).mono ?_
        rintro e w3 ⟨v3, rfl, o3, x3⟩
        obtain ⟨A3, c3, rfl, _, hB3⟩ := OwnB.open o3
        have ho3 := ho.ext x3
        clear o3
        go_wp2_with (at_builtin; go_loud (refine wpList_append_B (w0 := w1) rfl (.tmp 24) (.tmp 31) rfl _ (o) rfl ho3 (hx.trans x3) A3 _ c3 (numB r.c.toNat ++ numB r.k.toNat) rfl (by first | rfl | simp only [List.length_append]) hB3 (by (try simp only [List.length_append]); omega) ?_; intro v4 w4 o4 x4 _; have y10 := x4.keep a0; have d12 := x4.keep q2; have d13 := x4.keep q3))
        clear ho3 hB3 ho hx x3
        have ho := o4
        have hx := x4
        clear o4 x4
        go_wp2_with fail
        refine (idN_any r.lc r.lk _ (by omega) (by omega)).mono ?_
        rintro e w3 ⟨v3, rfl, o3, x3⟩
        obtain ⟨A3, c3, rfl, _, hB3⟩ := OwnB.open o3
        have ho3 := ho.ext x3
        clear o3
        go_wp2_with (at_builtin; go_loud (refine wpList_append_B (w0 := w1) rfl (.tmp 33) (.tmp 40) rfl _ (o ++ (numB r.c.toNat ++ numB r.k.toNat)) rfl ho3 (hx.trans x3) A3 _ c3 (numB r.lc.toNat ++ numB r.lk.toNat) rfl (by first | rfl | simp only [List.length_append]) hB3 (by (try simp only [List.length_append]); omega) ?_; intro v4 w4 o4 x4 _; have y20 := x4.keep a0; have d24 := x4.keep q4; have d25 := x4.keep q5))
        clear ho3 hB3 ho hx x3
        have ho := o4
        have hx := x4
        clear o4 x4
        go_wp2_with fail
        refine (idN_any r.rc r.rk _ (by omega) (by omega)).mono ?_
        rintro e w3 ⟨v3, rfl, o3, x3⟩
        obtain ⟨A3, c3, rfl, _, hB3⟩ := OwnB.open o3
        have ho3 := ho.ext x3
        clear o3
        go_wp2_with (at_builtin; go_loud (refine wpList_append_B (w0 := w1) rfl (.tmp 42) (.tmp 49) rfl _ (o ++ (numB r.c.toNat ++ numB r.k.toNat) ++ (numB r.lc.toNat ++ numB r.lk.toNat)) rfl ho3 (hx.trans x3) A3 _ c3 (numB r.rc.toNat ++ numB r.rk.toNat) rfl (by first | rfl | simp only [List.length_append]) hB3 (by (try simp only [List.length_append]); omega) ?_; intro v4 w4 o4 x4 _; have y30 := x4.keep a0; have d36 := x4.keep q6))
        clear ho3 hB3 ho hx x3
        have ho := o4
        have hx := x4
        clear o4 x4
        go_wp2_with fail
        refine (putTextRef_any ⟨r.t.toArray⟩ (by rw [hsz]; omega) _).mono ?_
        rintro e w3 ⟨v3, rfl, o3, x3⟩
        obtain ⟨A3, c3, rfl, _, hB3⟩ := OwnB.open o3
        have ho3 := ho.ext x3
        clear o3
        go_wp2_with (at_builtin; go_loud (refine wpList_append_B (w0 := w1) rfl (.tmp 51) (.tmp 58) rfl _ (o ++ (numB r.c.toNat ++ numB r.k.toNat) ++ (numB r.lc.toNat ++ numB r.lk.toNat) ++ (numB r.rc.toNat ++ numB r.rk.toNat)) rfl ho3 (hx.trans x3) A3 _ c3 (putT r.t) rfl (by first | rfl | simp only [List.length_append]) hB3 (by (try simp only [List.length_append]); omega) ?_; intro v4 w4 o4 x4 _; have y40 := x4.keep a0))
        clear ho3 hB3 ho hx x3
        go_roundw
        case rel => exact ⟨k + 1, by omega, by go_num, Lib.hid (by have e := hst.out; simp only at e ⊢; rw [e, ← List.append_assoc, hod.out, runB_four]; simpa [List.append_assoc] using o4), x4⟩
        case measure => simp [intOf]; omega
      · have hfull : rs.take k = rs := List.take_of_length_le (by rw [hn.out]; omega)
        replace ho := (show OwnB w1 wr _ (numB n ++ rs.flatMap runB) by have h := ho.out; simp only [hfull] at h; exact h)
        have hkk : k = n := by omega
        clear hfull hlt
        have b1 := hx.keep a1
        go_wp2_with fail
        refine (hp2.out wr).mono ?_
        rintro e w3 ⟨v3, rfl, o3, x3⟩
        obtain ⟨A3, c3, rfl, hcc, hB3⟩ := OwnB.open o3
        have ho3 := Lib.hid (ho.ext x3)
        clear o3 hp2 ho
        go_wp2_with (at_builtin; go_loud (refine wpList_append_B (w0 := w1) rfl (.tmp 60) (.tmp 65) rfl _ (numB n ++ rs.flatMap runB) rfl ho3.out (hx.trans x3) A3 _ c3 (numB m) rfl rfl hB3 (by rw [List.length_append]; omega) ?_; intro v4 w4 o4 x4 _; have b4 := x4.keep a1))
        replace o4 := Lib.hid o4
        clear ho3 hB3 b1
        go_loopw [7, 5] (PutLoop w1 m fun k => numB n ++ rs.flatMap runB ++ numB m ++ (ds.take k).flatMap spanB) (fun i _ _ => m - (intOf i).toNat)
        case atStart => exact ⟨0, Nat.zero_le _, rfl, Lib.hid (by simpa using o4.out), x4⟩
        case round =>
          clear o4 x4 b4 hx y0
          obtain ⟨k, hk, rfl, ho, hx⟩ := hrel
          have y1 := hx.keep a1
          by_cases hlt : k < m
          · obtain ⟨b, oo, x, y, z, rfl, hp, d0, d1, d2⟩ := hS.out.at (k := k) (by rw [hm.out]; exact hlt)
            have hwf := wfS_at hds.out hp
            have q0 := hX1.keep d0
            have q1 := hX1.keep d1
            have q2 := hX1.keep d2
            have e0 := hx.keep q0
            have hst := Lib.hid (flat_take1 (f := spanB) hp)
            have hpre := flat_pre spanB ds (k + 1)
            rw [hst.out, List.length_append, spanB_three] at hpre
            simp only [List.length_append] at hpre
            have hi1 : (0 : Int) ≤ (k : Int) := by omega
            have hi2 : (k : Int) < (m : Int) := by omega
            replace ho := ho.out
            simp only at ho
            obtain ⟨o, hod⟩ : ∃ o, numB n ++ rs.flatMap runB ++ numB m ++ (ds.take k).flatMap spanB = o := ⟨_, rfl⟩
            rw [hod] at ho
            have hol : o.length = (numB n).length + (rs.flatMap runB).length + (numB m).length + ((ds.take k).flatMap spanB).length := by rw [← hod]; simp only [List.length_append]
            replace hod := Lib.hid hod
            clear hp d0 d1 d2
            go_wp2_with fail
            refine (numN_any x _ (by omega)).mono ?_
            rintro e w3 ⟨v3, rfl, o3, x3⟩
            obtain ⟨A3, c3, rfl, _, hB3⟩ := OwnB.open o3
            have ho3 := ho.ext x3
            clear o3
            go_wp2_with (at_builtin; go_loud (refine wpList_append_B (w0 := w1) rfl (.tmp 74) (.tmp 81) rfl _ (o) rfl ho3 (hx.trans x3) A3 _ c3 (numB x.toNat) rfl (by first | rfl | simp only [List.length_append]) hB3 (by (try simp only [List.length_append]); omega) ?_; intro v4 w4 o4 x4 _; have y11 := x4.keep a1; have d11 := x4.keep q1))
            clear ho3 hB3 ho hx x3
            have ho := o4
            have hx := x4
            clear o4 x4
            go_wp2_with fail
            refine (numN_any y _ (by omega)).mono ?_
            rintro e w3 ⟨v3, rfl, o3, x3⟩
            obtain ⟨A3, c3, rfl, _, hB3⟩ := OwnB.open o3
            have ho3 := ho.ext x3
            clear o3
            go_wp2_with (at_builtin; go_loud (refine wpList_append_B (w0 := w1) rfl (.tmp 83) (.tmp 90) rfl _ (o ++ (numB x.toNat)) rfl ho3 (hx.trans x3) A3 _ c3 (numB y.toNat) rfl (by first | rfl | simp only [List.length_append]) hB3 (by (try simp only [List.length_append]); omega) ?_; intro v4 w4 o4 x4 _; have y21 := x4.keep a1; have d22 := x4.keep q2))
            clear ho3 hB3 ho hx x3
            have ho := o4
            have hx := x4
            clear o4 x4
            go_wp2_with fail
            refine (numN_any z _ (by omega)).mono ?_
            rintro e w3 ⟨v3, rfl, o3, x3⟩
            obtain ⟨A3, c3, rfl, _, hB3⟩ := OwnB.open o3
            have ho3 := ho.ext x3
            clear o3
            go_wp2_with (at_builtin; go_loud (refine wpList_append_B (w0 := w1) rfl (.tmp 92) (.tmp 99) rfl _ (o ++ (numB x.toNat) ++ (numB y.toNat)) rfl ho3 (hx.trans x3) A3 _ c3 (numB z.toNat) rfl (by first | rfl | simp only [List.length_append]) hB3 (by (try simp only [List.length_append]); omega) ?_; intro v4 w4 o4 x4 _; have y31 := x4.keep a1))
            clear ho3 hB3 ho hx x3
            go_roundw
            case rel => exact ⟨k + 1, by omega, by go_num, Lib.hid (by have e := hst.out; simp only at e ⊢; rw [e, ← List.append_assoc, hod.out, spanB_three]; simpa [List.append_assoc] using o4), x4⟩
            case measure => simp [intOf]; omega
          · have hfull : ds.take k = ds := List.take_of_length_le (by rw [hm.out]; omega)
            replace ho := Lib.hid (show OwnB w1 wr _ (batB rs ds) by have h := ho.out; simp only [hfull] at h; rw [← hfin.out]; exact h)
            obtain ⟨A4, c4, rfl, hcc4, _⟩ := OwnB.open ho.out
            have hg : decide ((20000 : Int) < ((batB rs ds).length : Int)) = false := by
              rw [decide_eq_false_iff_not, ← hfin.out]
              simp only [List.length_append]
              omega
            clear hfull
            go_wp2
            exact bodyPost_ret (v := .tuple #[_, .bool true]) (by simp [results, Tryd.results9, go_sem]) rfl ⟨_, rfl, ho.out.down hX1, hX1.trans hx⟩

end Go.Proofs.YthpminlfbjedpaaDoor

namespace Go.Proofs.YthpminlfbjedpaaDoor
open Go.ChangeShapes Go.WideShapes Go.ChangeAt Go.RowKit Go.Sort
set_option linter.unusedVariables false
attribute [local go_sem] World.cell?_alloc_some

theorem item_neq (a b c d e f g : Int) (W : World) : (binOp .neq 56 (.agg #[.int .u32 a, .int .u32 b, .int .u32 c, .int .u32 d, .int .u32 e, .int .u32 f, .int .i32 g]) (.agg #[.int .u32 a, .int .u32 b, .int .u32 c, .int .u32 d, .int .u32 e, .int .u32 f, .int .i32 g])).run Tryd.prog W = .ok (.bool false) W := by
  simp [go_sem]
theorem run_neq (a b c d e f : Int) (s : ByteArray) (W : World) : (binOp .neq 49 (.agg #[.int .u32 a, .int .u32 b, .int .u32 c, .int .u32 d, .int .u32 e, .int .u32 f, .string s]) (.agg #[.int .u32 a, .int .u32 b, .int .u32 c, .int .u32 d, .int .u32 e, .int .u32 f, .string s])).run Tryd.prog W = .ok (.bool false) W := by
  simp [go_sem]

end Go.Proofs.YthpminlfbjedpaaDoor

namespace Go.Proofs.YthpminlfbjedpaaDoor
open Go.ChangeShapes Go.WideShapes Go.ChangeAt Go.RowKit Go.Sort
set_option linter.unusedVariables false
attribute [local go_sem] World.cell?_alloc_some

theorem cnt_drop {l : List (Int × Int × Int)} {k : Nat} {x y z : Int} (h : l[k]? = some (x, y, z)) : cntS (l.drop k) = (z - y) + cntS (l.drop (k + 1)) := by
  obtain ⟨hk, e⟩ := List.getElem?_eq_some_iff.1 h
  rw [List.drop_eq_getElem_cons hk, e, cntS]
theorem mayS_at {l : List (Int × Int × Int)} {k : Nat} {x y z : Int} (hm : maySp zS l = true) (h : l[k]? = some (x, y, z)) : y < z := (may_drop_at hm h).2
theorem ret_u64 {a b : Int} (h : a = b) : Ending.returned (.int .u64 a) = .returned (.int .u64 b) := by rw [h]

/-- what Count's loops keep -/
def CntRel (w : World) (n : Nat) (l : List (Int × Int × Int)) (v i : Value) (W : World) : Prop :=
  ∃ (k : Nat) (s : Int), k ≤ n ∧ i = .int .i64 k ∧ v = .int .u64 s ∧ 0 ≤ s ∧ s ≤ 4294967295 * (k : Int) ∧ Hid (s + cntS (l.drop k) = cntS l) ∧ Ext w W

end Go.Proofs.YthpminlfbjedpaaDoor

namespace Go.Proofs.YthpminlfbjedpaaDoor
open Go.ChangeShapes Go.WideShapes Go.ChangeAt Go.RowKit Go.Sort
set_option linter.unusedVariables false
attribute [local go_sem] World.cell?_alloc_some

theorem span_neq (a b c : Int) (W : World) : (binOp .neq 62 (.agg #[.int .u32 a, .int .u32 b, .int .u32 c]) (.agg #[.int .u32 a, .int .u32 b, .int .u32 c])).run Tryd.prog W = .ok (.bool false) W := by
  simp [go_sem]

set_option maxHeartbeats 1000000 in
theorem sameS_any (A B : Option Addr) (n cap cap' : Nat) (l : List (Int × Int × Int)) (w : World) (hv : SpS w A l) (hu : SpS w B l) (hn : l.length = n) (hb : n ≤ 1000) :
    Calls Tryd.prog 30 #[.slice A n cap, .slice B n cap'] w fun e w' => e = .returned (.bool true) ∧ Ext w w' := by
  replace hn := Lib.hid hn
  replace hv := Lib.hid hv
  replace hu := Lib.hid hu
  go_enter Tryd.func30, Tryd.ntmps30
  go_wp2
  go_loopw [5] (fun i W => ∃ (k : Nat), k ≤ n ∧ i = .int .i64 k ∧ Ext w W) (fun i _ => n - (intOf i).toNat)
  case atStart => exact ⟨0, Nat.zero_le _, rfl, Ext.refl _⟩
  case round =>
    obtain ⟨k, hk, rfl, hx⟩ := hrel
    by_cases hlt : k < n
    · obtain ⟨b, o, x, y, z, rfl, hp, c0, c1, c2⟩ := (hv.out.ext hx).at (k := k) (by rw [hn.out]; exact hlt)
      obtain ⟨b', o', x', y', z', rfl, hp', c0', c1', c2'⟩ := (hu.out.ext hx).at (k := k) (by rw [hn.out]; exact hlt)
      rw [hp] at hp'
      injection hp' with hp'
      injection hp' with e1 e2
      injection e2 with e2 e3
      subst e1
      subst e2
      subst e3
      clear hp
      have hnq := span_neq x y z
      go_wp2
      go_quiet (fail)
      go_wp2
      go_roundw
      case rel => exact ⟨k + 1, by omega, by go_num, hx.drewN _⟩
      case measure => simp [intOf]; omega
    · go_wp2
      go_ret
      exact ⟨rfl, hx⟩


end Go.Proofs.YthpminlfbjedpaaDoor

namespace Go.Proofs.YthpminlfbjedpaaDoor
open Go.ChangeShapes Go.WideShapes Go.ChangeAt Go.RowKit Go.Sort
set_option linter.unusedVariables false
attribute [local go_sem] World.cell?_alloc_some

set_option maxRecDepth 100000 in
set_option maxHeartbeats 2000000 in
theorem sameBat_any (A B A' B' : Option Addr) (n c c' m d d' : Nat) (rs : List Rn) (ds : List Sp) (w : World) (hv : RnS w A rs) (hu : RnS w A' rs) (hn : rs.length = n) (hs : SpS w B ds) (hs' : SpS w B' ds) (hm : ds.length = m) (hb : n ≤ 100000) (hbm : m ≤ 1000) :
    Calls Tryd.prog 12 #[.agg #[.slice A n c, .slice B m d], .agg #[.slice A' n c', .slice B' m d']] w fun e w' => e = .returned (.bool true) ∧ Ext w w' := by
  have hset := Lib.hid (fun W (hx : Ext w W) => sameS_any B B' m d d' ds W (hs.ext hx) (hs'.ext hx) hm hbm)
  replace hn := Lib.hid hn
  replace hv := Lib.hid hv
  replace hu := Lib.hid hu
  have x0 : Ext w ((w.alloc (.cells #[.slice A n c, .slice B m d] 25)).alloc (.cells #[.slice A' n c', .slice B' m d'] 25)) := ((Ext.refl _).alloc _).alloc _
  have a0 : ((w.alloc (.cells #[.slice A n c, .slice B m d] 25)).alloc (.cells #[.slice A' n c', .slice B' m d'] 25)).cell? ⟨w.heap.size, 0, none⟩ = some (.slice A n c) := by simp [go_sem]
  have a1 : ((w.alloc (.cells #[.slice A n c, .slice B m d] 25)).alloc (.cells #[.slice A' n c', .slice B' m d'] 25)).cell? ⟨w.heap.size, 1, none⟩ = some (.slice B m d) := by simp [go_sem]
  have b0 : ((w.alloc (.cells #[.slice A n c, .slice B m d] 25)).alloc (.cells #[.slice A' n c', .slice B' m d'] 25)).cell? ⟨w.heap.size + 1, 0, none⟩ = some (.slice A' n c') := by simp [go_sem]
  have b1 : ((w.alloc (.cells #[.slice A n c, .slice B m d] 25)).alloc (.cells #[.slice A' n c', .slice B' m d'] 25)).cell? ⟨w.heap.size + 1, 1, none⟩ = some (.slice B' m d') := by simp [go_sem]
  go_enter Tryd.func12, Tryd.ntmps12
  go_wp2
  generalize (w.alloc (.cells #[.slice A n c, .slice B m d] 25)).alloc (.cells #[.slice A' n c', .slice B' m d'] 25) = w1 at *
  generalize w.heap.size = pa at *
  go_loopw [5] (fun i W => ∃ (k : Nat), k ≤ n ∧ i = .int .i64 k ∧ Ext w1 W) (fun i _ => n - (intOf i).toNat)
  case atStart => exact ⟨0, Nat.zero_le _, rfl, Ext.refl _⟩
  case round =>
    obtain ⟨k, hk, rfl, hx⟩ := hrel
    have y0 := hx.keep a0
    have y1 := hx.keep a1
    have z0 := hx.keep b0
    have z1 := hx.keep b1
    by_cases hlt : k < n
    · obtain ⟨b, o, x, rfl, hp, c⟩ := (hv.out.ext (x0.trans hx)).at (k := k) (by rw [hn.out]; exact hlt)
      obtain ⟨b', o', x', rfl, hp', c'⟩ := (hu.out.ext (x0.trans hx)).at (k := k) (by rw [hn.out]; exact hlt)
      rw [hp] at hp'
      injection hp' with hp'
      subst hp'
      clear hp
      obtain ⟨c0, c1, c2, c3, c4, c5, c6⟩ := c
      obtain ⟨d0, d1, d2, d3, d4, d5, d6⟩ := c'
      have hnq := run_neq x.c x.k x.lc x.lk x.rc x.rk ⟨x.t.toArray⟩
      go_wp2
      go_quiet (fail)
      go_wp2
      go_roundw
      case rel => exact ⟨k + 1, by omega, by go_num, hx.drewN _⟩
      case measure => simp [intOf]; omega
    · have hs2 := Lib.hid (hset.out wr (x0.trans hx))
      go_wp2_with fail
      refine hs2.out.mono ?_
      rintro e w2 ⟨rfl, x2⟩
      go_wp2
      go_ret
      exact ⟨rfl, (x0.trans hx).trans x2⟩

end Go.Proofs.YthpminlfbjedpaaDoor

namespace Go.Proofs.YthpminlfbjedpaaDoor
open Go.ChangeShapes Go.WideShapes Go.ChangeAt Go.RowKit Go.Sort
set_option linter.unusedVariables false
attribute [local go_sem] World.cell?_alloc_some

theorem mayB_nil : mayB [] [] = true := rfl
theorem batB_nil : batB [] [] = [0, 0] := rfl
theorem getBat_zero : getBat [0] = none := rfl

set_option maxRecDepth 100000 in
set_option maxHeartbeats 4000000 in
theorem up6_any (w : World) (hT : Tabs w) : Calls Tryd.prog 5 #[] w fun e w' => e = .returned (.bool true) ∧ Ext w w' := by
  have hput := putBat_any none 0 0 none 0 0 [] [] w hT (RnS.nil _ _) rfl (SpS.nil _ _) rfl (by simp) (by intro _ h; cases h) (by omega) (by omega) (by rw [batB_nil]; simp)
  rw [mayB_nil, batB_nil] at hput
  have hget := Lib.hid (fun (W : World) (A : Option Addr) (hx : Ext w W) (hb : Bys W A [0]) => getBat_any (A := A) (n := 1) (c := 1) (hT.ext hx) hb rfl (by omega) (by omega) (fun rs ds e h _ => by have := getBat_zero; unfold getBat at this; cases h))
  rw [getBat_zero] at hget
  replace hput := Lib.hid hput
  go_enter Tryd.func5, Tryd.ntmps5
  go_wp2_with fail
  refine hput.out.mono ?_
  rintro e w1 ⟨v, rfl, o, x1⟩
  obtain ⟨A1, c1, rfl, _, hB⟩ := OwnB.open o
  have hg := Lib.hid (hget.out (w1.alloc (.cells #[.int .u8 0] 5)) (some ⟨w1.heap.size, 0, none⟩) (x1.alloc _) (Bys.new w1 [0] _ rfl))
  clear hput hget o
  go_wp2_with fail
  refine hg.out.mono ?_
  rintro e w2 ⟨rfl, x2⟩
  have hb2 := (hB.ext ((Ext.refl w1).alloc (.cells #[.int .u8 0] 5))).ext x2
  have ht1 := textB (c := c1) (hb2.ext ((Ext.refl w2).alloc (.cells #[.slice none 0 0, .slice none 0 0] 25))) (n := 2) rfl
  have ht2 := textB (c := 2) (Bys.new (w2.alloc (.cells #[.slice none 0 0, .slice none 0 0] 25)) [0, 0] #[.int .u8 0, .int .u8 0] rfl) (n := 2) rfl
  rw [show (w2.alloc (.cells #[.slice none 0 0, .slice none 0 0] 25)).heap.size = w2.heap.size + 1 by simp] at ht2
  have hcode := Lib.hid (fun W => code_any 2 W (by omega) (by omega))
  have hE := (x1.alloc (.cells #[.int .u8 0] 5)).trans x2
  clear hb2 hB hg x1 x2
  go_wp2_with fail
  refine (hcode.out _).mono ?_
  rintro e w3 ⟨rfl, rfl⟩
  go_wp2
  go_ret
  exact ⟨rfl, (hE.alloc _).alloc _⟩

end Go.Proofs.YthpminlfbjedpaaDoor

namespace Go.Proofs.YthpminlfbjedpaaDoor
open Go.ChangeShapes Go.WideShapes Go.ChangeAt Go.RowKit Go.Sort
set_option linter.unusedVariables false
attribute [local go_sem] World.cell?_alloc_some

theorem flat_bound {α : Type} (f : α → List UInt8) (K : Nat) : ∀ (l : List α), (∀ x ∈ l, (f x).length ≤ K) → (l.flatMap f).length ≤ l.length * K
  | [], _ => by simp
  | x :: l, h => by
    have h1 := h x (List.mem_cons_self ..)
    have h2 := flat_bound f K l fun y hy => h y (List.mem_cons_of_mem _ hy)
    rw [List.flatMap_cons, List.length_append, List.length_cons, Nat.succ_mul]
    omega
theorem numB_five (v : Nat) : (numB v).length ≤ 5 := by rw [numB_len]; have := lenB_le v; omega
theorem small_true {rs : List Rn} {m : Nat} (h : smallB rs m = true) : rs.length ≤ 40 ∧ m ≤ 40 ∧ ∀ r ∈ rs, r.t.length ≤ 200 := by
  unfold smallB at h
  rw [Bool.and_eq_true, decide_eq_true_eq] at h
  exact ⟨h.1.1, h.1.2, fun r hr => by simpa using List.all_eq_true.1 h.2 r hr⟩
theorem bat_small {rs : List Rn} {ds : List Sp} (h1 : rs.length ≤ 40) (h2 : ds.length ≤ 40) (ht : ∀ r ∈ rs, r.t.length ≤ 200) : (batB rs ds).length ≤ 20000 := by
  have a1 := numB_five rs.length
  have a2 := numB_five ds.length
  have a3 := flat_bound runB 235 rs fun r hr => by
    have := ht r hr
    have b1 := numB_five r.c.toNat
    have b2 := numB_five r.k.toNat
    have b3 := numB_five r.lc.toNat
    have b4 := numB_five r.lk.toNat
    have b5 := numB_five r.rc.toNat
    have b6 := numB_five r.rk.toNat
    have b7 := numB_five r.t.length
    rw [runB_four, putT]
    simp only [List.length_append]
    omega
  have a4 := flat_bound spanB 15 ds fun s hs => by
    obtain ⟨x, y, z⟩ := s
    have b1 := numB_five x.toNat
    have b2 := numB_five y.toNat
    have b3 := numB_five z.toNat
    rw [spanB_three]
    simp only [List.length_append]
    omega
  have a5 : rs.length * 235 ≤ 40 * 235 := Nat.mul_le_mul_right _ h1
  have a6 : ds.length * 15 ≤ 40 * 15 := Nat.mul_le_mul_right _ h2
  rw [batB]
  simp only [List.length_append]
  omega
theorem items_small {rs : List Rn} (h1 : rs.length ≤ 40) (ht : ∀ r ∈ rs, r.t.length ≤ 200) : (itemsOf rs).length ≤ 10000 := by
  have h : ∀ l : List Rn, (∀ r ∈ l, r.t.length ≤ 200) → (itemsOf l).length ≤ l.length * 200 := by
    intro l
    induction l with
    | nil => intro _; simp [itemsOf]
    | cons r l ih =>
      intro h
      have h1 := h r (List.mem_cons_self ..)
      have h2 := ih fun y hy => h y (List.mem_cons_of_mem _ hy)
      have h3 : (itemsR r).length ≤ r.t.length := by rw [itemsR, itemsGo_len]; exact runesD_len _
      rw [items_cons, List.length_append, List.length_cons, Nat.succ_mul]
      omega
  have := h rs ht
  have a5 : rs.length * 200 ≤ 40 * 200 := Nat.mul_le_mul_right _ h1
  omega
theorem flat_least {α : Type} {f : α → List UInt8} : ∀ (l : List α), (∀ x, 1 ≤ (f x).length) → l.length ≤ (l.flatMap f).length
  | [], _ => by simp
  | x :: l, h => by
    have h1 := h x
    have h2 := flat_least l h
    rw [List.flatMap_cons, List.length_append, List.length_cons]
    omega
theorem flat_least3 {α : Type} {f : α → List UInt8} : ∀ (l : List α), (∀ x, 3 ≤ (f x).length) → l.length * 3 ≤ (l.flatMap f).length
  | [], _ => by simp
  | x :: l, h => by
    have h1 := h x
    have h2 := flat_least3 l h
    rw [List.flatMap_cons, List.length_append, List.length_cons]
    omega
/-- few spans are in few bytes -/
theorem bd_short {l : List UInt8} {n : Nat} (hl : l.length = n) (hn : n ≤ 3000) : ∀ rs ds e, parse l = some (rs, ds, e) → e = n → ds.length ≤ 1000 := fun rs ds e h _ => by
  obtain ⟨h1, _, _, _, h5⟩ := parse_back h
  omega

set_option maxRecDepth 100000 in
set_option maxHeartbeats 32000000 in
theorem batchTells_walk (W : World) (hT : Tabs W) (A : Option Addr) (n c : Nat) (B : Option Addr) (m d : Nat) (rs : List Rn) (ds : List Sp) (hn : rs.length = n) (hc : n ≤ c) (hR : RnS W A rs) (hw : ∀ q ∈ rs, wfR q ∧ q.t.length ≤ maxLen) (hm : ds.length = m) (hd : m ≤ d) (hS : SpS W B ds) (hwd : wfS ds)
    (A1 : Option Addr) (n1 c1 : Nat) (l1 : List UInt8) (hn1 : l1.length = n1) (hc1 : n1 ≤ c1) (hm1 : n1 ≤ maxLen) (hs1 : Bys W A1 l1) :
    Calls Tryd.prog 3 #[batv A n c B m d, .slice A1 n1 c1] W fun e W' => e = .returned (.bool true) ∧ Ext W W' := by
  have hup := Lib.hid (up6_any (W.alloc (.cells #[.slice A n c, .slice B m d] 25)) (hT.ext ((Ext.refl W).alloc _)))
  have hsmc := Lib.hid (fun (Z : World) (hx : Ext W Z) => small_any A n c B m d rs Z (hR.ext hx) hn)
  cases hsm : smallB rs m with
  | false =>
    rw [hsm] at hsmc
    simp only [Bool.false_eq_true, if_false] at hsmc
    go_enter Tryd.func3, Tryd.ntmps3
    go_wp2_with fail
    refine hup.out.mono ?_
    rintro e w0 ⟨rfl, x0⟩
    have a0 := x0.keep (p := ⟨W.heap.size, 0, none⟩) (v := .slice A n c) (by simp [go_sem])
    have a1 := x0.keep (p := ⟨W.heap.size, 1, none⟩) (v := .slice B m d) (by simp [go_sem])
    have y0 : Ext W w0 := ((Ext.refl _).alloc _).trans x0
    clear x0 hup
    go_wp2_with fail
    refine (hsmc.out _ y0).mono ?_
    rintro e w1 ⟨rfl, x1⟩
    go_wp2
    go_ret
    exact ⟨rfl, y0.trans x1⟩
  | true =>
    rw [hsm] at hsmc
    simp only [if_true] at hsmc
    by_cases hbig : 3000 < n1
    · have g1 : decide ((3000 : Int) < (n1 : Int)) = true := by rw [decide_eq_true_eq]; omega
      go_enter Tryd.func3, Tryd.ntmps3
      go_wp2_with fail
      refine hup.out.mono ?_
      rintro e w0 ⟨rfl, x0⟩
      have a0 := x0.keep (p := ⟨W.heap.size, 0, none⟩) (v := .slice A n c) (by simp [go_sem])
      have a1 := x0.keep (p := ⟨W.heap.size, 1, none⟩) (v := .slice B m d) (by simp [go_sem])
      have y0 : Ext W w0 := ((Ext.refl _).alloc _).trans x0
      clear x0 hup
      go_wp2_with fail
      refine (hsmc.out _ y0).mono ?_
      rintro e w1 ⟨rfl, x1⟩
      go_wp2
      go_ret
      exact ⟨rfl, y0.trans x1⟩
    · obtain ⟨h40, h41, h200⟩ := small_true hsm
      have g1 : decide ((3000 : Int) < (n1 : Int)) = false := by rw [decide_eq_false_iff_not]; omega
      have hL := bat_small h40 (by rw [hm]; exact h41) h200
      have hI := items_small h40 h200
      have hw1 : ∀ r ∈ rs, wfR r ∧ r.t.length ≤ 20000 := fun r hr => ⟨(hw r hr).1, by have := h200 r hr; omega⟩
      have hw2 : ∀ r ∈ rs, wfR r ∧ r.t.length ≤ 200000 := fun r hr => ⟨(hw r hr).1, by have := h200 r hr; omega⟩
      have hmay := Lib.hid (fun (Z : World) (hx : Ext W Z) => mayBatRef_any A n c B m d rs ds Z (hR.ext hx) hn (hS.ext hx) hm hw2 hwd (by omega) (by omega) (fun _ => hI))
      have hput := Lib.hid (fun (Z : World) (hx : Ext W Z) => putBat_any A n c B m d rs ds Z (hT.ext hx) (hR.ext hx) hn (hS.ext hx) hm hw1 hwd (by omega) (by omega) hL)
      have hbat := Lib.hid (fun (Z : World) (hx : Ext W Z) => batRef_any A n c B m d rs ds Z (hR.ext hx) hn (hS.ext hx) hm hw1 hwd (by omega) (by omega) (fun _ => hI) hL)
      have hmayd := Lib.hid (fun (Z : World) (hx : Ext W Z) => mayBat_any A n c B m d rs ds Z (hT.ext hx) (hR.ext hx) hn (hS.ext hx) hm hw2 hwd (by omega) (by omega))
      have hget := Lib.hid (fun (Z : World) (hx : Ext W Z) => getBat_any (hT.ext hx) (hs1.ext hx) hn1 hc1 (by omega) (bd_short hn1 (by omega)))
      have hgrf := Lib.hid (fun (Z : World) (hx : Ext W Z) => getBatRef_any (hs1.ext hx) hn1 hc1 (by omega))
      have hcode1 := Lib.hid (fun Z => code_any 1 Z (by omega) (by omega))
      have hcode2 := Lib.hid (fun Z => code_any 2 Z (by omega) (by omega))
      have hll : ∀ rs2 ds2, getBat l1 = some (rs2, ds2) → rs2.length ≤ 100000 ∧ ds2.length ≤ 1000 := fun rs2 ds2 h => by
        obtain ⟨h1, _, _, _, h5⟩ := getBat_back h
        have h6 : l1.length = (batB rs2 ds2).length := by rw [h1]
        have b1 : rs2.length ≤ (rs2.flatMap runB).length := flat_least rs2 fun r => by rw [runB_four, putT]; simp only [List.length_append, numB_len]; omega
        have b2 : ds2.length ≤ (ds2.flatMap spanB).length := flat_least ds2 fun s => by obtain ⟨x, y, z⟩ := s; rw [spanB_three]; simp only [List.length_append, numB_len]; omega
        have b3 : ds2.length * 3 ≤ (ds2.flatMap spanB).length := flat_least3 ds2 fun s => by obtain ⟨x, y, z⟩ := s; rw [spanB_three]; simp only [List.length_append, numB_len]; omega
        rw [batB] at h6
        simp only [List.length_append] at h6
        omega
      clear hL hI hw1 hw2 hR hS hs1 hw hwd h200 hn1 hn
      obtain ⟨L, hLd⟩ : ∃ L, batB rs ds = L := ⟨_, rfl⟩
      rw [hLd] at hput hbat
      clear hLd
      generalize mayB rs ds = M at *
      generalize getBat l1 = G at *
      go_enter Tryd.func3, Tryd.ntmps3
      go_wp2_with fail
      refine hup.out.mono ?_
      rintro e w0 ⟨rfl, x0⟩
      have a0' := x0.keep (p := ⟨W.heap.size, 0, none⟩) (v := .slice A n c) (by simp [go_sem])
      have a1' := x0.keep (p := ⟨W.heap.size, 1, none⟩) (v := .slice B m d) (by simp [go_sem])
      have z0 : Ext W w0 := ((Ext.refl _).alloc _).trans x0
      clear x0 hup
      generalize W.heap.size = pa at *
      go_wp2_with fail
      refine (hsmc.out _ z0).mono ?_
      rintro e w0' ⟨rfl, x0'⟩
      have y0 := z0.trans x0'
      have a0 := x0'.keep a0'
      have a1 := x0'.keep a1'
      clear hsmc x0' z0 a0' a1'
      cases M with
      | true =>
        cases G with
        | some rd =>
          obtain ⟨rs2, ds2⟩ := rd
          have hl2 := hll rs2 ds2 rfl
          go_wp2_with fail
          refine (hmay.out _ y0).mono ?_
          rintro e w1 ⟨rfl, x1⟩
          have y1 := y0.trans x1
          have b0 := x1.keep a0
          have b1 := x1.keep a1
          clear hmay
          go_wp2_with fail
          refine (hput.out _ y1).mono ?_
          rintro e w2 ⟨vc, rfl, oc, x2⟩
          obtain ⟨Ac, cc, rfl, _, hBc⟩ := OwnB.open oc
          have y2 := y1.trans x2
          have d0 := x2.keep b0
          have d1 := x2.keep b1
          clear hput
          go_wp2_with fail
          refine (hbat.out _ y2).mono ?_
          rintro e w3 ⟨vw, rfl, ow, x3⟩
          obtain ⟨Aw, cw, rfl, _, hBw⟩ := OwnB.open ow
          replace hBc := Lib.hid (hBc.ext x3)
          replace hBw := Lib.hid hBw
          clear oc ow
          have y3 := y2.trans x3
          have e0 := x3.keep d0
          have e1 := x3.keep d1
          clear hbat b0 b1 d0 d1
          go_wp2_with fail
          refine (hget.out _ y3).mono ?_
          rintro e w4 ⟨vr, vd, rfl, or4, od4, x4⟩
          obtain ⟨Ar, cr, rfl, _, hRr⟩ := OwnR.open or4
          obtain ⟨Ad, cd, rfl, hSd⟩ := SpS.own od4
          have x4a : Ext w4 (w4.alloc (.cells #[.slice Ar rs2.length cr, .slice Ad ds2.length cd] 25)) := (Ext.refl _).alloc _
          have y4 := y3.trans x4
          have f0 := (x4.trans x4a).keep e0
          have f1 := (x4.trans x4a).keep e1
          have p0 : (w4.alloc (.cells #[.slice Ar rs2.length cr, .slice Ad ds2.length cd] 25)).cell? ⟨w4.heap.size, 0, none⟩ = some (.slice Ar rs2.length cr) := by simp [go_sem]
          have p1 : (w4.alloc (.cells #[.slice Ar rs2.length cr, .slice Ad ds2.length cd] 25)).cell? ⟨w4.heap.size, 1, none⟩ = some (.slice Ad ds2.length cd) := by simp [go_sem]
          have hBc4 := Lib.hid (hBc.out.ext (x4.trans x4a))
          have hBw4 := Lib.hid (hBw.out.ext (x4.trans x4a))
          have hRr4 := Lib.hid (hRr.ext x4a)
          have hSd4 := Lib.hid (hSd.ext x4a)
          clear or4 od4 hRr hSd
          replace y4 := y4.trans x4a
          clear hget x4 x4a e0 e1
          go_wp2_with fail
          refine (hgrf.out _ y4).mono ?_
          rintro e w5 ⟨vr5, vd5, rfl, or5, od5, x5⟩
          obtain ⟨Ar5, cr5, rfl, _, hRr5⟩ := OwnR.open or5
          obtain ⟨Ad5, cd5, rfl, hSd5⟩ := SpS.own od5
          have x5a : Ext w5 (w5.alloc (.cells #[.slice Ar5 rs2.length cr5, .slice Ad5 ds2.length cd5] 25)) := (Ext.refl _).alloc _
          have x55 := x5.trans x5a
          have y5 := y4.trans x55
          have g0 := x55.keep f0
          have g1 := x55.keep f1
          have q0 := x55.keep p0
          have q1 := x55.keep p1
          have r0 : (w5.alloc (.cells #[.slice Ar5 rs2.length cr5, .slice Ad5 ds2.length cd5] 25)).cell? ⟨w5.heap.size, 0, none⟩ = some (.slice Ar5 rs2.length cr5) := by simp [go_sem]
          have r1 : (w5.alloc (.cells #[.slice Ar5 rs2.length cr5, .slice Ad5 ds2.length cd5] 25)).cell? ⟨w5.heap.size, 1, none⟩ = some (.slice Ad5 ds2.length cd5) := by simp [go_sem]
          have hsame := Lib.hid (sameBat_any Ar Ad Ar5 Ad5 rs2.length cr cr5 ds2.length cd cd5 rs2 ds2 (w5.alloc (.cells #[.slice Ar5 rs2.length cr5, .slice Ad5 ds2.length cd5] 25)) (hRr4.out.ext x55) (hRr5.ext x5a) rfl (hSd4.out.ext x55) (hSd5.ext x5a) rfl hl2.1 hl2.2)
          clear or5 od5 hRr5 hSd5 hRr4 hSd4
          have hBc5 := Lib.hid (hBc4.out.ext x55)
          have hBw5 := Lib.hid (hBw4.out.ext x55)
          clear hBc4 hBw4 hBc hBw
          clear hgrf x5 x5a x55 f0 f1 p0 p1
          go_wp2_with fail
          refine hsame.out.mono ?_
          rintro e w6 ⟨rfl, x6⟩
          have y6 := y5.trans x6
          have s0 := x6.keep g0
          have s1 := x6.keep g1
          clear hsame q0 q1 r0 r1 g0 g1
          go_wp2_with fail
          refine (hmayd.out _ y6).mono ?_
          rintro e w7 ⟨rfl, x7⟩
          have y7 := y6.trans x7
          have ht1 := textB (c := cc) ((hBc5.out.ext x6).ext x7) (n := L.length) rfl
          have ht2 := textB (c := cw) ((hBw5.out.ext x6).ext x7) (n := L.length) rfl
          clear hBc5 hBw5
          clear hmayd s0 s1
          go_wp2
          go_ret
          exact ⟨rfl, y7⟩
        | none =>
          go_wp2_with fail
          refine (hmay.out _ y0).mono ?_
          rintro e w1 ⟨rfl, x1⟩
          have y1 := y0.trans x1
          have b0 := x1.keep a0
          have b1 := x1.keep a1
          clear hmay
          go_wp2_with fail
          refine (hput.out _ y1).mono ?_
          rintro e w2 ⟨vc, rfl, oc, x2⟩
          obtain ⟨Ac, cc, rfl, _, hBc⟩ := OwnB.open oc
          have y2 := y1.trans x2
          have d0 := x2.keep b0
          have d1 := x2.keep b1
          clear hput
          go_wp2_with fail
          refine (hbat.out _ y2).mono ?_
          rintro e w3 ⟨vw, rfl, ow, x3⟩
          obtain ⟨Aw, cw, rfl, _, hBw⟩ := OwnB.open ow
          replace hBc := Lib.hid (hBc.ext x3)
          replace hBw := Lib.hid hBw
          clear oc ow
          have y3 := y2.trans x3
          have e0 := x3.keep d0
          have e1 := x3.keep d1
          clear hbat b0 b1 d0 d1
          go_wp2_with fail
          refine (hget.out _ y3).mono ?_
          rintro e w4 ⟨rfl, x4⟩
          have x4a : Ext w4 (w4.alloc (.cells #[.slice none 0 0, .slice none 0 0] 25)) := (Ext.refl _).alloc _
          have y4 := y3.trans x4
          have f0 := (x4.trans x4a).keep e0
          have f1 := (x4.trans x4a).keep e1
          have p0 : (w4.alloc (.cells #[.slice none 0 0, .slice none 0 0] 25)).cell? ⟨w4.heap.size, 0, none⟩ = some (.slice none 0 0) := by simp [go_sem]
          have p1 : (w4.alloc (.cells #[.slice none 0 0, .slice none 0 0] 25)).cell? ⟨w4.heap.size, 1, none⟩ = some (.slice none 0 0) := by simp [go_sem]
          have hBc4 := Lib.hid (hBc.out.ext (x4.trans x4a))
          have hBw4 := Lib.hid (hBw.out.ext (x4.trans x4a))
          replace y4 := y4.trans x4a
          clear hget x4 x4a e0 e1
          go_wp2_with fail
          refine (hgrf.out _ y4).mono ?_
          rintro e w5 ⟨rfl, x5⟩
          have x5a : Ext w5 (w5.alloc (.cells #[.slice none 0 0, .slice none 0 0] 25)) := (Ext.refl _).alloc _
          have x55 := x5.trans x5a
          have y5 := y4.trans x55
          have g0 := x55.keep f0
          have g1 := x55.keep f1
          have q0 := x55.keep p0
          have q1 := x55.keep p1
          have r0 : (w5.alloc (.cells #[.slice none 0 0, .slice none 0 0] 25)).cell? ⟨w5.heap.size, 0, none⟩ = some (.slice none 0 0) := by simp [go_sem]
          have r1 : (w5.alloc (.cells #[.slice none 0 0, .slice none 0 0] 25)).cell? ⟨w5.heap.size, 1, none⟩ = some (.slice none 0 0) := by simp [go_sem]
          have hsame := Lib.hid (sameBat_any none none none none 0 0 0 0 0 0 [] [] (w5.alloc (.cells #[.slice none 0 0, .slice none 0 0] 25)) (RnS.nil _ _) (RnS.nil _ _) rfl (SpS.nil _ _) (SpS.nil _ _) rfl (by omega) (by omega))
          have hBc5 := Lib.hid (hBc4.out.ext x55)
          have hBw5 := Lib.hid (hBw4.out.ext x55)
          clear hBc4 hBw4 hBc hBw
          clear hgrf x5 x5a x55 f0 f1 p0 p1
          go_wp2_with fail
          refine hsame.out.mono ?_
          rintro e w6 ⟨rfl, x6⟩
          have y6 := y5.trans x6
          have s0 := x6.keep g0
          have s1 := x6.keep g1
          clear hsame q0 q1 r0 r1 g0 g1
          go_wp2_with fail
          refine (hmayd.out _ y6).mono ?_
          rintro e w7 ⟨rfl, x7⟩
          have y7 := y6.trans x7
          have ht1 := textB (c := cc) ((hBc5.out.ext x6).ext x7) (n := L.length) rfl
          have ht2 := textB (c := cw) ((hBw5.out.ext x6).ext x7) (n := L.length) rfl
          clear hBc5 hBw5
          clear hmayd s0 s1
          go_wp2_with fail
          refine (hcode2.out _).mono ?_
          rintro e w9 ⟨rfl, rfl⟩
          go_wp2
          go_ret
          exact ⟨rfl, y7⟩
      | false =>
        cases G with
        | some rd =>
          obtain ⟨rs2, ds2⟩ := rd
          have hl2 := hll rs2 ds2 rfl
          go_wp2_with fail
          refine (hmay.out _ y0).mono ?_
          rintro e w1 ⟨rfl, x1⟩
          have y1 := y0.trans x1
          have b0 := x1.keep a0
          have b1 := x1.keep a1
          clear hmay
          go_wp2_with fail
          refine (hput.out _ y1).mono ?_
          rintro e w2 ⟨rfl, x2⟩
          have y2 := y1.trans x2
          have d0 := x2.keep b0
          have d1 := x2.keep b1
          clear hput
          go_wp2_with fail
          refine (hbat.out _ y2).mono ?_
          rintro e w3 ⟨rfl, x3⟩
          have y3 := y2.trans x3
          have e0 := x3.keep d0
          have e1 := x3.keep d1
          clear hbat b0 b1 d0 d1
          go_wp2_with fail
          refine (hget.out _ y3).mono ?_
          rintro e w4 ⟨vr, vd, rfl, or4, od4, x4⟩
          obtain ⟨Ar, cr, rfl, _, hRr⟩ := OwnR.open or4
          obtain ⟨Ad, cd, rfl, hSd⟩ := SpS.own od4
          have x4a : Ext w4 (w4.alloc (.cells #[.slice Ar rs2.length cr, .slice Ad ds2.length cd] 25)) := (Ext.refl _).alloc _
          have y4 := y3.trans x4
          have f0 := (x4.trans x4a).keep e0
          have f1 := (x4.trans x4a).keep e1
          have p0 : (w4.alloc (.cells #[.slice Ar rs2.length cr, .slice Ad ds2.length cd] 25)).cell? ⟨w4.heap.size, 0, none⟩ = some (.slice Ar rs2.length cr) := by simp [go_sem]
          have p1 : (w4.alloc (.cells #[.slice Ar rs2.length cr, .slice Ad ds2.length cd] 25)).cell? ⟨w4.heap.size, 1, none⟩ = some (.slice Ad ds2.length cd) := by simp [go_sem]
          have hRr4 := Lib.hid (hRr.ext x4a)
          have hSd4 := Lib.hid (hSd.ext x4a)
          clear or4 od4 hRr hSd
          replace y4 := y4.trans x4a
          clear hget x4 x4a e0 e1
          go_wp2_with fail
          refine (hgrf.out _ y4).mono ?_
          rintro e w5 ⟨vr5, vd5, rfl, or5, od5, x5⟩
          obtain ⟨Ar5, cr5, rfl, _, hRr5⟩ := OwnR.open or5
          obtain ⟨Ad5, cd5, rfl, hSd5⟩ := SpS.own od5
          have x5a : Ext w5 (w5.alloc (.cells #[.slice Ar5 rs2.length cr5, .slice Ad5 ds2.length cd5] 25)) := (Ext.refl _).alloc _
          have x55 := x5.trans x5a
          have y5 := y4.trans x55
          have g0 := x55.keep f0
          have g1 := x55.keep f1
          have q0 := x55.keep p0
          have q1 := x55.keep p1
          have r0 : (w5.alloc (.cells #[.slice Ar5 rs2.length cr5, .slice Ad5 ds2.length cd5] 25)).cell? ⟨w5.heap.size, 0, none⟩ = some (.slice Ar5 rs2.length cr5) := by simp [go_sem]
          have r1 : (w5.alloc (.cells #[.slice Ar5 rs2.length cr5, .slice Ad5 ds2.length cd5] 25)).cell? ⟨w5.heap.size, 1, none⟩ = some (.slice Ad5 ds2.length cd5) := by simp [go_sem]
          have hsame := Lib.hid (sameBat_any Ar Ad Ar5 Ad5 rs2.length cr cr5 ds2.length cd cd5 rs2 ds2 (w5.alloc (.cells #[.slice Ar5 rs2.length cr5, .slice Ad5 ds2.length cd5] 25)) (hRr4.out.ext x55) (hRr5.ext x5a) rfl (hSd4.out.ext x55) (hSd5.ext x5a) rfl hl2.1 hl2.2)
          clear or5 od5 hRr5 hSd5 hRr4 hSd4
          clear hgrf x5 x5a x55 f0 f1 p0 p1
          go_wp2_with fail
          refine hsame.out.mono ?_
          rintro e w6 ⟨rfl, x6⟩
          have y6 := y5.trans x6
          have s0 := x6.keep g0
          have s1 := x6.keep g1
          clear hsame q0 q1 r0 r1 g0 g1
          go_wp2_with fail
          refine (hmayd.out _ y6).mono ?_
          rintro e w7 ⟨rfl, x7⟩
          have y7 := y6.trans x7
          have ht1 := textB (c := 0) (Bys.nil w7 none) (n := 0) rfl
          clear hmayd s0 s1
          go_wp2_with fail
          refine (hcode1.out _).mono ?_
          rintro e w8 ⟨rfl, rfl⟩
          go_wp2
          go_ret
          exact ⟨rfl, y7⟩
        | none =>
          go_wp2_with fail
          refine (hmay.out _ y0).mono ?_
          rintro e w1 ⟨rfl, x1⟩
          have y1 := y0.trans x1
          have b0 := x1.keep a0
          have b1 := x1.keep a1
          clear hmay
          go_wp2_with fail
          refine (hput.out _ y1).mono ?_
          rintro e w2 ⟨rfl, x2⟩
          have y2 := y1.trans x2
          have d0 := x2.keep b0
          have d1 := x2.keep b1
          clear hput
          go_wp2_with fail
          refine (hbat.out _ y2).mono ?_
          rintro e w3 ⟨rfl, x3⟩
          have y3 := y2.trans x3
          have e0 := x3.keep d0
          have e1 := x3.keep d1
          clear hbat b0 b1 d0 d1
          go_wp2_with fail
          refine (hget.out _ y3).mono ?_
          rintro e w4 ⟨rfl, x4⟩
          have x4a : Ext w4 (w4.alloc (.cells #[.slice none 0 0, .slice none 0 0] 25)) := (Ext.refl _).alloc _
          have y4 := y3.trans x4
          have f0 := (x4.trans x4a).keep e0
          have f1 := (x4.trans x4a).keep e1
          have p0 : (w4.alloc (.cells #[.slice none 0 0, .slice none 0 0] 25)).cell? ⟨w4.heap.size, 0, none⟩ = some (.slice none 0 0) := by simp [go_sem]
          have p1 : (w4.alloc (.cells #[.slice none 0 0, .slice none 0 0] 25)).cell? ⟨w4.heap.size, 1, none⟩ = some (.slice none 0 0) := by simp [go_sem]
          replace y4 := y4.trans x4a
          clear hget x4 x4a e0 e1
          go_wp2_with fail
          refine (hgrf.out _ y4).mono ?_
          rintro e w5 ⟨rfl, x5⟩
          have x5a : Ext w5 (w5.alloc (.cells #[.slice none 0 0, .slice none 0 0] 25)) := (Ext.refl _).alloc _
          have x55 := x5.trans x5a
          have y5 := y4.trans x55
          have g0 := x55.keep f0
          have g1 := x55.keep f1
          have q0 := x55.keep p0
          have q1 := x55.keep p1
          have r0 : (w5.alloc (.cells #[.slice none 0 0, .slice none 0 0] 25)).cell? ⟨w5.heap.size, 0, none⟩ = some (.slice none 0 0) := by simp [go_sem]
          have r1 : (w5.alloc (.cells #[.slice none 0 0, .slice none 0 0] 25)).cell? ⟨w5.heap.size, 1, none⟩ = some (.slice none 0 0) := by simp [go_sem]
          have hsame := Lib.hid (sameBat_any none none none none 0 0 0 0 0 0 [] [] (w5.alloc (.cells #[.slice none 0 0, .slice none 0 0] 25)) (RnS.nil _ _) (RnS.nil _ _) rfl (SpS.nil _ _) (SpS.nil _ _) rfl (by omega) (by omega))
          clear hgrf x5 x5a x55 f0 f1 p0 p1
          go_wp2_with fail
          refine hsame.out.mono ?_
          rintro e w6 ⟨rfl, x6⟩
          have y6 := y5.trans x6
          have s0 := x6.keep g0
          have s1 := x6.keep g1
          clear hsame q0 q1 r0 r1 g0 g1
          go_wp2_with fail
          refine (hmayd.out _ y6).mono ?_
          rintro e w7 ⟨rfl, x7⟩
          have y7 := y6.trans x7
          have ht1 := textB (c := 0) (Bys.nil w7 none) (n := 0) rfl
          clear hmayd s0 s1
          go_wp2_with fail
          refine (hcode1.out _).mono ?_
          rintro e w8 ⟨rfl, rfl⟩
          go_wp2_with fail
          refine (hcode2.out _).mono ?_
          rintro e w9 ⟨rfl, rfl⟩
          go_wp2
          go_ret
          exact ⟨rfl, y7⟩

end Go.Proofs.YthpminlfbjedpaaDoor
