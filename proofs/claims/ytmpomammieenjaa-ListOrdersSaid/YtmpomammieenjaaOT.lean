/-
  Several texts of this seat in one file, each in the namespace again; no claim stands here.
-/
import Derived.LaidEqlPtr
import Derived.Deep.OwnRows
import Derived.Orders
import Derived.StillTail
import Derived.Test.YtmpomammieenjaaOS
import Derived.Test.YtmpomammieenjaaTWalk
import Derived.Test.YtmpomammieenjaaTLen
namespace Go.Proofs.Ytmpomammieenjaa
open Go.ChangeShapes Go.WideShapes Go.ChangeAt Go.RowKit Go.Sort
set_option linter.unusedVariables false
set_option linter.unusedSimpArgs false
set_option linter.unusedSimpArgs false
attribute [local go_sem] World.cell?_alloc_some

def vAd (ad : I2 → Nat) (a : I2) : Value := if a.1 = 0 then Vnil else Vp (ad a)
abbrev RtL (L : List It) (a : I2) : Prop := a = (0, 0) ∨ hasI L a = true
theorem vAd_root (ad : I2 → Nat) : vAd ad (0, 0) = Vnil := rfl
theorem vAd_of {L : List It} (hk : knownI L = true) {ad : I2 → Nat} {a : I2} (h : hasI L a = true) : vAd ad a = Vp (ad a) := by
  unfold vAd
  rw [if_neg]
  intro e
  have := has_root hk a.2
  rw [show ((0 : Int), a.2) = a from Prod.ext e.symm rfl, h] at this
  cases this
theorem vAd_ptr (ad : I2 → Nat) (a : I2) : ∃ p, vAd ad a = .pointer p := by
  unfold vAd
  split
  · exact ⟨none, rfl⟩
  · exact ⟨_, rfl⟩
def NC (W : World) (b : Nat) (x : It) (von : Value) (r : Bool) (d : Int) (vfar : Value) : Prop := W.heap[b]? = some (.cells #[Vu x.c, Vu x.k, Vu x.lc, Vu x.lk, Vu x.rc, Vu x.rk, .int .i32 x.ch, von, .bool r, Vi d, vfar] 110 (0, 0))
theorem NC.lt {W : World} {b : Nat} {x : It} {v1 v2 : Value} {r : Bool} {d : Int} (h : NC W b x v1 r d v2) : b < W.heap.size := (Array.getElem?_eq_some_iff.1 h).1
theorem NC.ext {W W' : World} {b : Nat} {x : It} {v1 v2 : Value} {r : Bool} {d : Int} (h : NC W b x v1 r d v2) (hx : Ext W W') : NC W' b x v1 r d v2 := (RowKit.Below.block hx b h.lt).trans h
theorem NC.frame {W W' : World} {b : Nat} {x : It} {v1 v2 : Value} {r : Bool} {d : Int} (h : NC W b x v1 r d v2) (hx : W'.heap[b]? = W.heap[b]?) : NC W' b x v1 r d v2 := hx.trans h
structure NcC (W : World) (b : Nat) (x : It) (v1 : Value) (r : Bool) (d : Int) (v2 : Value) : Prop where
  c0 : W.cell? ⟨b, 0, none⟩ = some (Vu x.c)
  c1 : W.cell? ⟨b, 1, none⟩ = some (Vu x.k)
  c2 : W.cell? ⟨b, 2, none⟩ = some (Vu x.lc)
  c3 : W.cell? ⟨b, 3, none⟩ = some (Vu x.lk)
  c4 : W.cell? ⟨b, 4, none⟩ = some (Vu x.rc)
  c5 : W.cell? ⟨b, 5, none⟩ = some (Vu x.rk)
  c6 : W.cell? ⟨b, 6, none⟩ = some (.int .i32 x.ch)
  c7 : W.cell? ⟨b, 7, none⟩ = some (v1)
  c8 : W.cell? ⟨b, 8, none⟩ = some (.bool r)
  c9 : W.cell? ⟨b, 9, none⟩ = some (Vi d)
  c10 : W.cell? ⟨b, 10, none⟩ = some (v2)
theorem NC.cells {W : World} {b : Nat} {x : It} {v1 v2 : Value} {r : Bool} {d : Int} (h : NC W b x v1 r d v2) : NcC W b x v1 r d v2 :=
  ⟨cell_of_row W b 0 _ _ _ h, cell_of_row W b 1 _ _ _ h, cell_of_row W b 2 _ _ _ h, cell_of_row W b 3 _ _ _ h, cell_of_row W b 4 _ _ _ h, cell_of_row W b 5 _ _ _ h, cell_of_row W b 6 _ _ _ h, cell_of_row W b 7 _ _ _ h, cell_of_row W b 8 _ _ _ h, cell_of_row W b 9 _ _ _ h, cell_of_row W b 10 _ _ _ h⟩
structure NdL (F : Nat → Prop) (W : World) (ad : I2 → Nat) (L : List It) : Prop where
  kn : knownI L = true
  at' : ∀ x ∈ L, F (ad (iid x)) ∧ ∃ (on far : I2) (right : Bool) (q : Pth), RtL L on ∧ RtL L far ∧ pth L (iid x) = pth L on ++ [(right, iid x)] ∧ pth L (iid x) = pth L far ++ q ∧ q ≠ [] ∧ NC W (ad (iid x)) x (vAd ad on) right ((pth L (iid x)).length : Nat) (vAd ad far)
  inj : ∀ a b, hasI L a = true → hasI L b = true → ad a = ad b → a = b
theorem NdL.ext {F : Nat → Prop} {W W' : World} {ad : I2 → Nat} {L : List It} (h : NdL F W ad L) (hx : Ext W W') : NdL F W' ad L :=
  ⟨h.kn, fun x hm => by
    obtain ⟨h0, on, far, r, q, h1, h2, h3, h4, h5, h6⟩ := h.at' x hm
    exact ⟨h0, on, far, r, q, h1, h2, h3, h4, h5, h6.ext hx⟩, h.inj⟩
theorem NdL.frame {F : Nat → Prop} {W W' : World} {ad : I2 → Nat} {L : List It} (h : NdL F W ad L) (hx : ∀ b, F b → W'.heap[b]? = W.heap[b]?) : NdL F W' ad L :=
  ⟨h.kn, fun x hm => by
    obtain ⟨h0, on, far, r, q, h1, h2, h3, h4, h5, h6⟩ := h.at' x hm
    exact ⟨h0, on, far, r, q, h1, h2, h3, h4, h5, h6.frame (hx _ h0)⟩, h.inj⟩
theorem NdL.mono {F G : Nat → Prop} {W : World} {ad : I2 → Nat} {L : List It} (h : NdL F W ad L) (hx : ∀ b, F b → G b) : NdL G W ad L :=
  ⟨h.kn, fun x hm => by
    obtain ⟨h0, r⟩ := h.at' x hm
    exact ⟨hx _ h0, r⟩, h.inj⟩
theorem NdL.lt {F : Nat → Prop} {W : World} {ad : I2 → Nat} {L : List It} (h : NdL F W ad L) : NdL (fun b => F b ∧ b < W.heap.size) W ad L :=
  ⟨h.kn, fun x hm => by
    obtain ⟨h0, on, far, r, q, h1, h2, h3, h4, h5, h6⟩ := h.at' x hm
    exact ⟨⟨h0, h6.lt⟩, on, far, r, q, h1, h2, h3, h4, h5, h6⟩, h.inj⟩
theorem NdL.get {F : Nat → Prop} {W : World} {ad : I2 → Nat} {L : List It} (h : NdL F W ad L) {a : I2} (ha : hasI L a = true) : ∃ (x : It) (on far : I2) (right : Bool) (q : Pth), iid x = a ∧ RtL L on ∧ RtL L far ∧ pth L a = pth L on ++ [(right, a)] ∧ pth L a = pth L far ++ q ∧ q ≠ [] ∧ NC W (ad a) x (vAd ad on) right ((pth L a).length : Nat) (vAd ad far) := by
  obtain ⟨x, hx, rfl⟩ := has_iffI.1 ha
  obtain ⟨_, on, far, r, q, h1, h2, h3, h4, h5, h6⟩ := h.at' x hx
  exact ⟨x, on, far, r, q, rfl, h1, h2, h3, h4, h5, h6⟩
theorem NdL.ids {F : Nat → Prop} {W : World} {ad : I2 → Nat} {L : List It} (h : NdL F W ad L) {l : List I2} (hl : ∀ a ∈ l, hasI L a = true) : NdIds W ad l := by
  intro a ha
  obtain ⟨x, _, _, _, _, rfl, _, _, _, _, _, hc⟩ := h.get (hl a ha)
  exact ⟨hc.cells.c0, hc.cells.c1⟩
theorem rt_len {L : List It} (hk : knownI L = true) {a : I2} (h : 0 < (pth L a).length) : hasI L a = true := by
  cases hh : hasI L a with
  | true => rfl
  | false => rw [pth_none hh] at h; simp at h
theorem rt_eq {L : List It} (hk : knownI L = true) {a b : I2} (ha : RtL L a) (hb : RtL L b) (e : pth L a = pth L b) : a = b := by
  rcases ha with ha | ha
  · subst ha
    rcases hb with hb | hb
    · exact hb.symm
    · rw [pth_none (has_root hk 0)] at e
      obtain ⟨s, p, e2, _⟩ := pth_ends hk b hb
      rw [e2] at e
      simp at e
  · rcases hb with hb | hb
    · subst hb
      rw [pth_none (has_root hk 0)] at e
      obtain ⟨s, p, e2, _⟩ := pth_ends hk a ha
      rw [e2] at e
      simp at e
    · exact pth_inj hk ha hb e

theorem deep_any {F : Nat → Prop} {ad : I2 → Nat} {L : List It} {a : I2} (w : World) (h : NdL F w ad L) (ha : RtL L a) (n : Nat) (hn : (pth L a).length = n) : Calls Try.prog 56 #[vAd ad a] w fun e w' => e = .returned (Vi (n : Int)) ∧ w = w' := by
  subst hn
  rcases ha with rfl | ha
  · rw [vAd_root, pth_none (has_root h.kn 0)]
    go_enter Try.func56, Try.ntmps56
    go_wp2
    go_ret
    exact ⟨rfl, rfl⟩
  · obtain ⟨x, on, far, r, q, _, _, _, _, _, _, hc⟩ := h.get ha
    have c9 := hc.cells.c9
    rw [vAd_of h.kn ha]
    clear hc
    generalize (pth L a).length = n at *
    generalize ad a = b at *
    go_enter Try.func56, Try.ntmps56
    go_wp2
    go_ret
    exact ⟨rfl, rfl⟩

theorem take_preH {P q : Pth} {d : Nat} (h : d ≤ P.length) : (P ++ q).take d = P.take d := by
  rw [List.take_append, show d - P.length = 0 by omega, List.take_zero, List.append_nil]
def UpC (ad : I2 → Nat) (L : List It) (P : Pth) (e : Ending) : Prop := ∃ c : I2, hasI L c = true ∧ pth L c = P ∧ e = .returned (Vp (ad c))
set_option maxRecDepth 100000 in
set_option maxHeartbeats 4000000 in
theorem upToH_any {F : Nat → Prop} {ad : I2 → Nat} {L : List It} {a : I2} (d : Nat) (w : World) (h : NdL F w ad L) (ha : hasI L a = true) (h1 : 1 ≤ d) (h2 : d ≤ (pth L a).length) (h3 : (pth L a).length ≤ 100000) :
    Calls Try.prog 100 #[Vp (ad a), Vi (d : Int)] w fun e w' => UpC ad L ((pth L a).take d) e ∧ w = w' := by
  have hN := Lib.hid h
  obtain ⟨T, hT⟩ : ∃ T, (pth L a).take d = T := ⟨_, rfl⟩
  have ha0 := Lib.hid (show hasI L a = true ∧ d ≤ (pth L a).length ∧ (pth L a).take d = T from ⟨ha, h2, hT⟩)
  rw [hT]
  obtain ⟨K, hK⟩ : ∃ K, (pth L a).length = K := ⟨_, rfl⟩
  replace hK := Lib.hid hK
  clear h ha h2 hT
  go_enter Try.func100, Try.ntmps100
  go_wp2
  go_loopg [0] K (fun kx s0 wr => ∃ m : I2, s0 = Vp (ad m) ∧ Hid (hasI L m = true ∧ d ≤ (pth L m).length ∧ (pth L m).take d = T) ∧ Hid ((pth L m).length ≤ kx) ∧ wr = w)
  case atStart => exact ⟨a, rfl, ha0, Lib.hid (Nat.le_of_eq hK.out), rfl⟩
  case round =>
    obtain ⟨m, rfl, hp, hk, rfl⟩ := hrel
    obtain ⟨hm, hd, ht⟩ := hp.out
    obtain ⟨x, on, far, r, q, _, ron, rfar, p1, p2, p3, hc⟩ := hN.out.get hm
    have c7 := hc.cells.c7
    have c9 := hc.cells.c9
    have c10 := hc.cells.c10
    have hl1 := congrArg List.length p1
    have hl2 := congrArg List.length p2
    rw [List.length_append, List.length_singleton] at hl1
    rw [List.length_append] at hl2
    have hq := List.length_pos_iff.2 p3
    clear hc
    by_cases hlt : d < (pth L m).length
    · have hlt' : (d : Int) < ((pth L m).length : Int) := by omega
      have hdp := Lib.hid (fun n hn => deep_any wr hN.out rfar n hn)
      have hon : hasI L on = true := rt_len hN.out.kn (by omega)
      by_cases hf : d ≤ (pth L far).length
      · have hfa : hasI L far = true := rt_len hN.out.kn (by omega)
        rw [vAd_of hN.out.kn hfa] at c10 hdp
        have hr := Lib.hid (show hasI L far = true ∧ d ≤ (pth L far).length ∧ (pth L far).take d = T from ⟨hfa, hf, by rw [← ht, p2, take_preH hf]⟩)
        have hms := Lib.hid (show (pth L far).length < gk by have := hk.out; omega)
        have hle := Lib.hid (Nat.le_refl (pth L far).length)
        replace hdp := Lib.hid (hdp.out _ rfl)
        have hf' : (d : Int) ≤ ((pth L far).length : Int) := by omega
        clear hp ht p1 p2 p3 hl1 hl2 hq hk
        generalize (pth L m).length = nm at *
        obtain ⟨nf, hnf⟩ : ∃ nf, (pth L far).length = nf := ⟨_, rfl⟩
        rw [hnf] at hdp hf'
        replace hnf := Lib.hid hnf
        go_wp2_with fail
        refine hdp.out.mono ?_
        rintro e w1 ⟨rfl, rfl⟩
        go_wp2
        go_roundg (pth L far).length
        case measure => exact hms.out
        case rel => exact ⟨far, rfl, hr, hle, rfl⟩
      · have hf' : ¬ (d : Int) ≤ ((pth L far).length : Int) := by omega
        have hr := Lib.hid (show hasI L on = true ∧ d ≤ (pth L on).length ∧ (pth L on).take d = T from ⟨hon, by omega, by rw [← ht, p1, take_preH (by omega)]⟩)
        have hms := Lib.hid (show (pth L on).length < gk by have := hk.out; omega)
        have hle := Lib.hid (Nat.le_refl (pth L on).length)
        replace hdp := Lib.hid (hdp.out _ rfl)
        rw [vAd_of hN.out.kn hon] at c7
        obtain ⟨pf, hpf⟩ := vAd_ptr ad far
        rw [hpf] at c10 hdp
        clear hp ht p1 p2 p3 hl1 hl2 hq hk hpf
        generalize (pth L m).length = nm at *
        obtain ⟨nf, hnf⟩ : ∃ nf, (pth L far).length = nf := ⟨_, rfl⟩
        rw [hnf] at hdp hf'
        replace hnf := Lib.hid hnf
        go_wp2_with fail
        refine hdp.out.mono ?_
        rintro e w1 ⟨rfl, rfl⟩
        go_wp2
        go_roundg (pth L on).length
        case measure => exact hms.out
        case rel => exact ⟨on, rfl, hr, hle, rfl⟩
    · have hlt' : ¬ (d : Int) < ((pth L m).length : Int) := by omega
      have hr := Lib.hid (show hasI L m = true ∧ pth L m = T from ⟨hm, by rw [← ht, List.take_of_length_le (by omega)]⟩)
      clear hp ht p1 p2 p3 hl1 hl2 hq hk
      generalize (pth L m).length = nm at *
      go_wp2
      go_ret
      exact ⟨⟨m, hr.out.1, hr.out.2, rfl⟩, rfl⟩

theorem infoNd : (Try.prog.info? 110).map (fun i => decide (i.size ≠ 0)) = some true := by kernel_rfl
theorem ptr_neq_same (a : Addr) (W : World) : (binOp .neq 85 (.pointer (some a)) (.pointer (some a))).run Try.prog W = .ok (.bool false) W := by
  have hi := infoNd
  cases hj : Try.prog.info? 110 with
  | none => rw [hj] at hi; cases hi
  | some j =>
    have h : ∀ d : Nat, (Op.equalIn (d + 1) 85 (.pointer (some a)) (.pointer (some a))).run Try.prog W = .ok true W := fun d => by
      simp [Op.equalIn, run_underlying Try.underlying85, sizeOf, typeInfo, hj, run_sameAddr_same]
    simp only [binOp]
    simp [Op.equal, Op.maxDepth, h 9999]
theorem ptr_neq_other {W : World} {a b : Addr} {ca cb : Array Value} {ta tb : TypeId} (hne : a ≠ b) (ha : W.heap[a.block]? = some (.cells ca ta (0, 0))) (hb : W.heap[b.block]? = some (.cells cb tb (0, 0))) : (binOp .neq 85 (.pointer (some a)) (.pointer (some b))).run Try.prog W = .ok (.bool true) W := by
  have hi := infoNd
  cases hj : Try.prog.info? 110 with
  | none => rw [hj] at hi; cases hi
  | some j =>
    rw [hj] at hi
    have hsz : j.size ≠ 0 := by simpa using hi
    have h : ∀ d : Nat, (Op.equalIn (d + 1) 85 (.pointer (some a)) (.pointer (some b))).run Try.prog W = .ok false W := fun d => by
      simp [Op.equalIn, run_underlying Try.underlying85, sizeOf, typeInfo, hj, hsz, run_sameAddr_other W hne ha hb]
    simp only [binOp]
    simp [Op.equal, Op.maxDepth, h 9999]
theorem ptr_neq_nil (a : Addr) (W : World) : (binOp .neq 85 (.pointer (some a)) (.pointer none)).run Try.prog W = .ok (.bool true) W := by
  have h : ∀ d : Nat, (Op.equalIn (d + 1) 85 (.pointer (some a)) (.pointer none)).run Try.prog W = .ok false W := fun d => by
    simp [Op.equalIn, run_underlying Try.underlying85]
  simp only [binOp]
  simp [Op.equal, Op.maxDepth, h 9999]
theorem ptr_neq_nil2 (a : Addr) (W : World) : (binOp .neq 85 (.pointer none) (.pointer (some a))).run Try.prog W = .ok (.bool true) W := by
  have h : ∀ d : Nat, (Op.equalIn (d + 1) 85 (.pointer none) (.pointer (some a))).run Try.prog W = .ok false W := fun d => by
    simp [Op.equalIn, run_underlying Try.underlying85]
  simp only [binOp]
  simp [Op.equal, Op.maxDepth, h 9999]
theorem ptr_neq_nils (W : World) : (binOp .neq 85 (.pointer none) (.pointer none)).run Try.prog W = .ok (.bool false) W := by
  have h : ∀ d : Nat, (Op.equalIn (d + 1) 85 (.pointer none) (.pointer none)).run Try.prog W = .ok true W := fun d => by
    simp [Op.equalIn, run_underlying Try.underlying85]
  simp only [binOp]
  simp [Op.equal, Op.maxDepth, h 9999]
theorem ad_neq {F : Nat → Prop} {W : World} {ad : I2 → Nat} {L : List It} (h : NdL F W ad L) {a b : I2} (ha : RtL L a) (hb : RtL L b) : (binOp .neq 85 (vAd ad a) (vAd ad b)).run Try.prog W = .ok (.bool (decide (a ≠ b))) W := by
  by_cases e : a = b
  · subst e
    rw [decide_eq_false (fun h => h rfl)]
    rcases ha with rfl | ha
    · exact ptr_neq_nils W
    · rw [vAd_of h.kn ha]; exact ptr_neq_same _ W
  · rw [decide_eq_true e]
    rcases ha with rfl | ha
    · rcases hb with rfl | hb
      · exact absurd rfl e
      · rw [vAd_root, vAd_of h.kn hb]; exact ptr_neq_nil2 _ W
    · rcases hb with rfl | hb
      · rw [vAd_root, vAd_of h.kn ha]; exact ptr_neq_nil _ W
      · rw [vAd_of h.kn ha, vAd_of h.kn hb]
        obtain ⟨_, _, _, _, _, _, _, _, _, _, _, h1⟩ := h.get ha
        obtain ⟨_, _, _, _, _, _, _, _, _, _, _, h2⟩ := h.get hb
        refine ptr_neq_other (fun e2 => e (h.inj a b ha hb ?_)) h1 h2
        injection e2
def hgV (ad : I2 → Nat) (r : Option I2) : Value := match r with
  | none => Vnil
  | some c => Vp (ad c)
set_option maxRecDepth 100000 in
set_option maxHeartbeats 4000000 in
theorem hungOn_any {F : Nat → Prop} {ad : I2 → Nat} {L : List It} {a b : I2} (w : World) (h : NdL F w ad L) (ha : hasI L a = true) (hb : RtL L b) (h3 : L.length ≤ 100000) :
    Calls Try.prog 79 #[Vp (ad a), vAd ad b] w fun e w' => e = .returned (hgV ad (hungP L a b)) ∧ w = w' := by
  have hla := pth_length h.kn a
  have hlb := pth_length h.kn b
  obtain ⟨x, on, far, r, q, _, ron, rfar, p1, p2, p3, hc⟩ := h.get ha
  have c9 := hc.cells.c9
  have hdp := Lib.hid (deep_any w h hb _ rfl)
  obtain ⟨R, hR⟩ : ∃ R, hgV ad (hungP L a b) = R := ⟨_, rfl⟩
  rw [hR]
  have hN := Lib.hid h
  by_cases hlt : (pth L a).length < (pth L b).length + 1
  · have hlt' : ((pth L a).length : Int) < ((pth L b).length : Int) + 1 := by omega
    have hr := Lib.hid (show R = Vnil by
      rw [← hR, hung_none]
      · rfl
      · intro s c r e
        have := congrArg List.length e
        rw [List.length_append, List.length_cons] at this
        omega)
    obtain ⟨pb, hpb⟩ := vAd_ptr ad b
    rw [hpb] at hdp ⊢
    clear hR hc p1 p2 p3 h hlt hpb
    generalize (pth L a).length = na at *
    generalize (pth L b).length = nb at *
    generalize ad a = aa at *
    go_enter Try.func79, Try.ntmps79
    go_wp2_with fail
    refine hdp.out.mono ?_
    rintro e w1 ⟨rfl, rfl⟩
    go_wp2
    go_ret
    exact ⟨by rw [hr.out]; rfl, rfl⟩
  · have hlt' : ¬ ((pth L a).length : Int) < ((pth L b).length : Int) + 1 := by omega
    have hup := Lib.hid (upToH_any ((pth L b).length + 1) w h ha (by omega) (by omega) (by omega))
    obtain ⟨pb, hpb⟩ := vAd_ptr ad b
    have hpb' := Lib.hid hpb
    rw [hpb] at hdp ⊢
    replace hR := Lib.hid hR
    clear hc p1 p2 p3 h hlt hpb
    have hA := Lib.hid (show (pth L b).length < (pth L a).length by omega)
    have hsmall : (pth L b).length ≤ 100000 := by omega
    obtain ⟨na, hna⟩ : ∃ n, (pth L a).length = n := ⟨_, rfl⟩
    obtain ⟨nb, hnb⟩ : ∃ n, (pth L b).length = n := ⟨_, rfl⟩
    obtain ⟨aa, haa⟩ : ∃ n, ad a = n := ⟨_, rfl⟩
    rw [hnb] at hlt' hdp hup hsmall
    rw [hna] at hlt' c9
    rw [haa] at c9 hup ⊢
    replace hna := Lib.hid hna
    replace hnb := Lib.hid hnb
    replace haa := Lib.hid haa
    go_enter Try.func79, Try.ntmps79
    go_wp2_with fail
    refine hdp.out.mono ?_
    rintro e w1 ⟨rfl, rfl⟩
    go_wp2_with fail
    rw [show (nb : Int) + 1 = ((nb + 1 : Nat) : Int) by omega]
    refine hup.out.mono ?_
    rintro e w1 ⟨⟨c, hcL, hcp, rfl⟩, rfl⟩
    obtain ⟨x2, on2, far2, r2, q2, _, ron2, rfar2, q1, q2', q3, hc2⟩ := hN.out.get hcL
    have d7 := hc2.cells.c7
    obtain ⟨p2, hp2⟩ := vAd_ptr ad on2
    have hp2' := Lib.hid hp2
    rw [hp2] at d7
    have htk : (pth L a).take (nb + 1) = pth L on2 ++ [(r2, c)] := by rw [← hcp, q1]
    have hon2 : pth L on2 = (pth L a).take nb := by
      have h1 := congrArg (fun z => z.take nb) htk
      have hl := congrArg List.length htk
      rw [List.length_take, List.length_append, List.length_singleton] at hl
      have hA' := hA.out
      rw [hnb.out] at hA'
      rw [List.take_take, Nat.min_eq_left (by omega), List.take_append, List.take_of_length_le (l := pth L on2) (by omega), show nb - (pth L on2).length = 0 by omega, List.take_zero, List.append_nil] at h1
      exact h1.symm
    clear hc2 hcp q1 q2' q3 hp2 c9
    have hne := ad_neq hN.out ron2 hb
    rw [hp2'.out, hpb'.out] at hne
    by_cases he : on2 = b
    · have hb2 : on2 = b := he
      rw [decide_eq_false (fun hh => hh he)] at hne
      have hr := Lib.hid (show R = Vp (ad c) by
        rw [← hR.out, hung_some (s := r2) (c := c) (r := (pth L a).drop (nb + 1))]
        · rfl
        · have := List.take_append_drop (nb + 1) (pth L a)
          rw [htk, hb2, List.append_assoc] at this
          exact this.symm)
      clear htk hon2 he hb2
      go_wp2
      go_ret
      exact ⟨by rw [hr.out]; rfl, rfl⟩
    · rw [decide_eq_true he] at hne
      have hr := Lib.hid (show R = Vnil by
        rw [← hR.out, hung_none]
        · rfl
        · intro s c3 r3 e3
          have h4 : pth L on2 = pth L b := by rw [hon2, e3, take_preH (by rw [hnb.out]; exact Nat.le_refl _), List.take_of_length_le (by rw [hnb.out]; exact Nat.le_refl _)]
          exact he (rt_eq hN.out.kn ron2 hb h4))
      clear htk hon2 he
      go_wp2
      go_ret
      exact ⟨by rw [hr.out]; rfl, rfl⟩

def FarC (ad : I2 → Nat) (L : List It) (b : I2) (e : Ending) : Prop := ∃ (f : I2) (q : Pth), RtL L f ∧ pth L b = pth L f ++ q ∧ e = .returned (vAd ad f)
set_option maxRecDepth 100000 in
set_option maxHeartbeats 4000000 in
theorem farH_any {F : Nat → Prop} {ad : I2 → Nat} {L : List It} {b : I2} (w : World) (h : NdL F w ad L) (hb : RtL L b) (h3 : L.length ≤ 100000) :
    Calls Try.prog 57 #[vAd ad b] w fun e w' => FarC ad L b e ∧ Ext w w' := by
  have hself := Lib.hid (show FarC ad L b (.returned (vAd ad b)) from ⟨b, [], hb, by simp, rfl⟩)
  rcases hb with rfl | hb
  · rw [vAd_root] at hself ⊢
    go_enter Try.func57, Try.ntmps57
    go_wp2
    go_ret
    exact ⟨hself.out, Ext.refl _⟩
  · obtain ⟨x, on, far, r, q, _, ron, rfar, p1, p2, p3, hc⟩ := h.get hb
    have c9 := hc.cells.c9
    have c10 := hc.cells.c10
    rw [vAd_of h.kn hb] at hself ⊢
    have hla := pth_length h.kn b
    rcases rfar with rfl | hfar
    · rw [vAd_root] at c10
      clear hc p1 p2 p3 h ron
      generalize (pth L b).length = nb at *
      generalize ad b = bb at *
      go_enter Try.func57, Try.ntmps57
      go_wp2
      go_ret
      exact ⟨hself.out, Ext.refl _⟩
    · rw [vAd_of h.kn hfar] at c10
      obtain ⟨x2, on2, far2, r2, q2, _, ron2, rfar2, q1, q2', q3, hc2⟩ := h.get hfar
      have d9 := hc2.cells.c9
      have d10 := hc2.cells.c10
      have hlf := pth_length h.kn far
      have hl2 := pth_length h.kn far2
      have hd := Lib.hid (fun (e : Ext w w.drew) => deep_any w.drew (h.ext e) rfar2 _ rfl)
      have hfar2 := Lib.hid (show FarC ad L b (.returned (vAd ad far2)) from ⟨far2, q2 ++ q, rfar2, by rw [p2, q2', List.append_assoc], rfl⟩)
      obtain ⟨pf, hpf⟩ := vAd_ptr ad far2
      rw [hpf] at d10 hd hfar2
      have x1 : Ext w w.drew := (Ext.refl w).drew
      replace hd := Lib.hid (((hd.out x1).mono fun e w' h => (⟨h.1, h.2.symm⟩ : e = .returned (Vi ((pth L far2).length : Nat)) ∧ w' = w.drew)))
      have c9' := x1.keep c9
      have c10' := x1.keep c10
      have d9' := x1.keep d9
      have d10' := x1.keep d10
      clear hc hc2 p1 p2 p3 q1 q2' q3 h ron ron2 rfar2 hfar hb hpf c9 d9 d10
      generalize (pth L b).length = nb at *
      generalize (pth L far).length = nf at *
      generalize (pth L far2).length = ng at *
      generalize ad b = bb at *
      generalize ad far = bf at *
      obtain ⟨T, hT⟩ : ∃ T : Bool, decide ((nb : Int) - (nf : Int) = (nf : Int) - (ng : Int)) = T := ⟨_, rfl⟩
      have hT' : ((nb : Int) - (nf : Int) == (nf : Int) - (ng : Int)) = T := by rw [← hT]; rfl
      clear hT
      go_enter Try.func57, Try.ntmps57
      go_wp2
      refine wp_region_still_tail 28 (by kernel_rfl) (by kernel_rfl) ?_
      simp only [List.take_succ_cons, List.take_zero, List.drop_succ_cons, List.drop_zero]
      change wpStill Try.prog _ w.drew (fun a' => wpList Try.prog _ _ _ a' w.drew) _ _
      generalize w.drew = w2 at *
      repeat still_step
      still_call hd.out
      repeat still_step
      refine wpStill_nil ?_
      cases T
      · go_wp2
        go_ret
        exact ⟨hself.out, x1⟩
      · go_wp2
        go_ret
        exact ⟨hfar2.out, x1⟩
end Go.Proofs.Ytmpomammieenjaa

namespace Go.Proofs.Ytmpomammieenjaa
open Go.ChangeShapes Go.WideShapes Go.ChangeAt Go.RowKit Go.Sort
set_option linter.unusedVariables false
set_option linter.unusedSimpArgs false
attribute [local go_sem] World.cell?_alloc_some

theorem idT_eql (a b c d : Int) (W : World) : (binOp .eql 41 (.agg #[.int .u32 a, .int .u32 b]) (.agg #[.int .u32 c, .int .u32 d])).run Try.prog W = .ok (.bool (decide (a = c ∧ b = d))) W := by
  by_cases h1 : a = c
  · by_cases h2 : b = d
    · subst h1; subst h2; simp [go_sem]
    · have : (b == d) = false := by simpa using h2
      subst h1
      simp [go_sem, this, h2]
  · have : (a == c) = false := by simpa using h1
    simp [go_sem, this, h1]

def fndV (l : List It) (a : I2) : Int := match fnd l a with
  | none => -1
  | some i => (i : Int)
theorem fnd_here {l : List It} {j : Nat} {x : It} {a : I2} (hp : l[j]? = some x) (h : iid x = a) : fnd (l.drop j) a = some 0 := by
  rw [drop_get hp, fnd, if_pos h]
theorem fnd_drop {l : List It} {j : Nat} {x : It} {a : I2} (hp : l[j]? = some x) (h : iid x ≠ a) : fnd (l.drop j) a = (fnd (l.drop (j + 1)) a).map (· + 1) := by
  rw [drop_get hp, fnd, if_neg h]
theorem fndV_neg {l : List It} {a : I2} : fndV l a < 0 ↔ hasI l a = false := by
  rw [← fnd_none]
  unfold fndV
  cases fnd l a with
  | none => simp
  | some i => simp

set_option maxRecDepth 100000 in
set_option maxHeartbeats 4000000 in
theorem find_ref (A : Option Addr) (n cap : Nat) (l : List It) (c k : Int) (w : World) (hv : ItS w A l) (hn : l.length = n) (hb : n ≤ 1000000000000000) :
    Calls Try.prog 28 #[.slice A n cap, idv c k] w fun e w' => e = .returned (Vi (fndV l (c, k))) ∧ Ext w w' := by
  obtain ⟨R, hR⟩ : ∃ R : Int, fndV l (c, k) = R := ⟨_, rfl⟩
  rw [hR]
  unfold fndV at hR
  have hR0 := Lib.hid (show (match fnd (l.drop 0) (c, k) with | none => (-1 : Int) | some i => ((i + 0 : Nat) : Int)) = R from hR)
  clear hR
  replace hn := Lib.hid hn
  replace hv := Lib.hid hv
  have heq := idT_eql
  go_enter Try.func28, Try.ntmps28
  go_wp2
  have x0 : Ext w (w.alloc (.cells #[.int .u32 c, .int .u32 k] 41)) := (Ext.refl _).alloc _
  have a0 : (w.alloc (.cells #[.int .u32 c, .int .u32 k] 41)).cell? ⟨w.heap.size, 0, none⟩ = some (Vu c) := by simp [go_sem]
  have a1 : (w.alloc (.cells #[.int .u32 c, .int .u32 k] 41)).cell? ⟨w.heap.size, 1, none⟩ = some (Vu k) := by simp [go_sem]
  generalize w.alloc (.cells #[.int .u32 c, .int .u32 k] 41) = w0 at *
  generalize w.heap.size = pa at *
  go_loopw [5] (fun i W => ∃ (j : Nat), j ≤ n ∧ i = Vi j ∧ Hid ((match fnd (l.drop j) (c, k) with | none => (-1 : Int) | some i => ((i + j : Nat) : Int)) = R) ∧ Ext w0 W) (fun i _ => n - (intOf i).toNat)
  case atStart => exact ⟨0, Nat.zero_le _, rfl, hR0, Ext.refl _⟩
  case round =>
    clear hR0
    obtain ⟨j, hj, rfl, hrel, hx⟩ := hrel
    have y0 := hx.keep a0
    have y1 := hx.keep a1
    by_cases hlt : j < n
    · obtain ⟨b, o, x, rfl, hp, d⟩ := (hv.out.ext (x0.trans hx)).at (k := j) (by rw [hn.out]; exact hlt)
      obtain ⟨c0, c1, c2, c3, c4, c5, c6⟩ := d
      have hi1 : (0 : Int) ≤ (j : Int) := by omega
      have hi2 : (j : Int) < (n : Int) := by omega
      by_cases hs : x.c = c ∧ x.k = k
      · have hd : decide (x.c = c ∧ x.k = k) = true := decide_eq_true hs
        have hr := Lib.hid (show (j : Int) = R by rw [← hrel.out, fnd_here hp (by unfold iid; rw [hs.1, hs.2])]; simp)
        have hq : ∀ W : World, (binOp .eql 41 (.agg #[.int .u32 x.c, .int .u32 x.k]) (.agg #[.int .u32 c, .int .u32 k])).run Try.prog W = .ok (.bool true) W := fun W => by rw [idT_eql, hd]
        clear hs hd hp hrel heq
        go_wp2
        go_quiet (fail)
        go_wp2
        go_ret
        exact ⟨ret_i64 hr.out, (x0.trans hx).drewN _⟩
      · have hd : decide (x.c = c ∧ x.k = k) = false := decide_eq_false hs
        have hr := Lib.hid (show (match fnd (l.drop (j + 1)) (c, k) with | none => (-1 : Int) | some i => ((i + (j + 1) : Nat) : Int)) = R by
          rw [← hrel.out, fnd_drop hp (by unfold iid; intro e; injection e with e1 e2; exact hs ⟨e1, e2⟩)]
          cases fnd (l.drop (j + 1)) (c, k) with
          | none => rfl
          | some i => show ((i + (j + 1) : Nat) : Int) = ((i + 1 + j : Nat) : Int); omega)
        have hq : ∀ W : World, (binOp .eql 41 (.agg #[.int .u32 x.c, .int .u32 x.k]) (.agg #[.int .u32 c, .int .u32 k])).run Try.prog W = .ok (.bool false) W := fun W => by rw [idT_eql, hd]
        clear hs hd hp hrel heq
        go_wp2
        go_quiet (fail)
        go_wp2
        go_roundw
        case rel => exact ⟨j + 1, by omega, by go_num, hr, hx.drewN _⟩
        case measure => simp [intOf]; omega
    · have hz := Lib.hid (show (-1 : Int) = R by rw [← hrel.out, List.drop_eq_nil_of_le (by rw [hn.out]; omega)]; rfl)
      go_wp2
      go_ret
      exact ⟨ret_i64 hz.out, x0.trans hx⟩

end Go.Proofs.Ytmpomammieenjaa

namespace Go.Proofs.Ytmpomammieenjaa
open Go.ChangeShapes Go.WideShapes Go.ChangeAt Go.RowKit Go.Sort
set_option linter.unusedVariables false
set_option linter.unusedSimpArgs false
attribute [local go_sem] World.cell?_alloc_some

def encO (x : I2) : List Value := [Vu x.1, Vu x.2]
theorem encO_len (p : I2) : (encO p).length = 2 := rfl
theorem encO_one (p : I2) : ∀ u ∈ encO p, u.oneCell' = true := by intro u hu; simp [encO] at hu; rcases hu with rfl | rfl <;> rfl
theorem infoO : (Try.prog.info? 41).map (fun i => (i.zero, i.size, i.bytes)) = some (some (.agg #[.int .u32 0, .int .u32 0]), 2, 8) := by kernel_rfl
def OdS (w : World) (A : Option Addr) (l : List I2) : Prop := Row w A (flat encO l)
theorem OdS.ext {w w' : World} {A : Option Addr} {l : List I2} (h : OdS w A l) (hx : Ext w w') : OdS w' A l := Row.ext h hx
theorem OdS.nil (w : World) (A : Option Addr) : OdS w A [] := Row.nil w A
theorem OdS.at {w : World} {A : Option Addr} {l : List I2} (h : OdS w A l) {k : Nat} (hk : k < l.length) : ∃ b o x, A = some ⟨b, o, none⟩ ∧ l[k]? = some x ∧ w.cell? ⟨b, o + k * 2, none⟩ = some (Vu x.1) ∧ w.cell? ⟨b, o + k * 2 + 1, none⟩ = some (Vu x.2) := by
  obtain ⟨x, hp⟩ : ∃ p, l[k]? = some p := ⟨l[k], List.getElem?_eq_getElem hk⟩
  obtain ⟨b, o, e, hc⟩ := Row.at h encO_len hp (by omega)
  exact ⟨b, o, x, e, hp, hc 0 _ rfl, hc 1 _ rfl⟩
theorem OdS.newAt {W : World} {s : Nat} (x : I2) (h : W.heap.size = s) : OdS (W.alloc (.cells #[.int .u32 x.1, .int .u32 x.2] 41)) (some ⟨s, 0, none⟩) [x] := h ▸ Row.new W #[.int .u32 x.1, .int .u32 x.2] 41
def OwnO (w W : World) (v : Value) (l : List I2) : Prop := OwnG 41 2 w W v l.length (flat encO l)
theorem OwnO.nil (w W : World) : OwnO w W (.slice none 0 0) [] := OwnG.nil _ _ _ _
theorem OwnO.ext {w W W' : World} {v : Value} {l : List I2} (h : OwnO w W v l) (hx : Ext W W') : OwnO w W' v l := OwnG.ext h hx
theorem OwnO.down {w0 w W : World} {v : Value} {l : List I2} (h : OwnO w W v l) (hx : Ext w0 w) : OwnO w0 W v l := OwnG.down h hx
theorem OwnO.lt {w W : World} {v : Value} {l : List I2} (h : OwnO w W v l) : ∀ k, v.ownBlock = some k → w.heap.size ≤ k ∧ k < W.heap.size := World.ownsRow.lt h
theorem OwnO.open {w W : World} {v : Value} {l : List I2} (h : OwnO w W v l) : ∃ A c, v = .slice A l.length c ∧ l.length ≤ c ∧ OdS W A l := by
  obtain ⟨A, c, rfl, hc⟩ := OwnG.form h
  exact ⟨A, c, rfl, hc, OwnG.row h⟩
theorem OwnO.kept {w W W' : World} {v : Value} {l : List I2} {row : Option Nat} (h : OwnO w W v l) (hg : W.grownBy W' row) (hn : v.ownBlock = none ∨ v.ownBlock ≠ row) : OwnO w W' v l := World.ownsRow.kept h hg hn
theorem wpList_append_O {w0 w : World} {ops : Array Oper} {rest : List Oper} {o : Oper} {a : Act} {Q : Exit → Act → World → Prop} (hgd : o.guard = none) (s x : Operand)
    (ho : o.op = .call { callee := .builtin .append, args := #[s, x], argTypes := #[36, 36] })
    (v : Value) (l : List I2) (hs : a.eval s = v) (hown : OwnO w0 w v l) (hx : Ext w0 w)
    (A : Option Addr) (m c : Nat) (r : List I2) (he : a.eval x = .slice A m c) (hm : r.length = m) (hr : OdS w A r) (hb : l.length + r.length ≤ 10000000000000)
    (h : ∀ v' w', OwnO w0 w' v' (l ++ r) → Ext w0 w' → w.grownBy w' v.ownBlock → (v'.ownBlock = v.ownBlock ∨ v'.ownBlock = some w.heap.size) → wpList Try.prog ops Q rest (a.put o.dst v') w') : wpList Try.prog ops Q (o :: rest) a w := by
  refine wpList_plain hgd fun K hK => ?_
  obtain ⟨i, hi, hz0, hz1, hz2⟩ := info_parts infoO
  subst hm
  obtain ⟨v', w', hrun, h2, h3, h4⟩ := run_append_rowB (P := Try.prog) w w0.heap.size 36 o.type 41 i _ 2 8 Try.underlying36 hi hz0 hz1 hz2 rfl (by omega) v l.length _ hown A r.length c _ (flat_len encO_len r) hr (flat_one_cell encO_one r)
    (by unfold maxLen; omega) (by omega) hx.size
  unfold Oper.wp execOp
  simp only [ho, resolve, invoke, builtin, Sem.run_bind, Sem.run_pure, Result.andThen_ok, List.map_toArray, List.map_cons, List.map_nil, hs, he, hrun]
  refine hK _ _ (h v' w' ?_ (hx.grown h3 (OwnG.lt hown)) h3 h4)
  unfold OwnO OwnG
  rw [flat_append, List.length_append]
  exact h2

def FlS (W : World) (b : Nat) (d : List Bool) : Prop := W.rowIs b 4 d.length fun i => .bool (d[i]?.getD true)
theorem FlS.grown {W W' : World} {b : Nat} {d : List Bool} {row : Option Nat} (h : FlS W b d) (hg : W.grownBy W' row) (hn : some b ≠ row) : FlS W' b d := by
  obtain ⟨c, h1, h2, h3⟩ := h
  exact ⟨c, by rw [hg.block b (Array.getElem?_eq_some_iff.1 h1).1 hn]; exact h1, h2, h3⟩
theorem FlS.ext {W W' : World} {b : Nat} {d : List Bool} (h : FlS W b d) (hx : Ext W W') : FlS W' b d := by
  obtain ⟨c, h1, h2, h3⟩ := h
  exact ⟨c, by rw [RowKit.Below.block hx b (Array.getElem?_eq_some_iff.1 h1).1]; exact h1, h2, h3⟩
theorem FlS.lt {W : World} {b : Nat} {d : List Bool} (h : FlS W b d) : b < W.heap.size := by
  obtain ⟨c, h1, _⟩ := h
  exact (Array.getElem?_eq_some_iff.1 h1).1
theorem FlS.cell {W : World} {b : Nat} {d : List Bool} (h : FlS W b d) {i : Nat} {x : Bool} (hi : d[i]? = some x) : W.cell? ⟨b, i, none⟩ = some (.bool x) := by
  have := World.rowIs.cell h (List.getElem?_eq_some_iff.1 hi).1
  rw [hi] at this
  exact this
theorem FlS.thaw {W : World} {b : Nat} {d : List Bool} (h : FlS W b d) (i : Nat) : W.frozen? ⟨b, i, none⟩ = false := World.rowIs.frozen h i
theorem FlS.store {W : World} {b : Nat} {d : List Bool} (h : FlS W b d) {i : Nat} (hi : i < d.length) : FlS (W.setCell ⟨b, i, none⟩ (.bool true)) b (d.set i true) := by
  unfold FlS
  rw [List.length_set]
  refine (World.rowIs.set h i (.bool true)).congr ?_
  intro j hj
  rw [List.getElem?_set]
  by_cases e : j = i
  · subst e
    simp [hi]
  · have e' : ¬ i = j := fun k => e k.symm
    simp [e, e']
theorem FlS.made (W : World) (n : Nat) : FlS (W.alloc (.cells (madeCells #[.bool false] n) 4)) W.heap.size (List.replicate n false) := by
  unfold FlS
  rw [List.length_replicate]
  refine (World.rowIs_made W (.bool false) n 4).congr ?_
  intro j hj
  rw [List.getElem?_replicate, if_pos hj]
  rfl
end Go.Proofs.Ytmpomammieenjaa

namespace Go.Proofs.Ytmpomammieenjaa
open Go.ChangeShapes Go.WideShapes Go.ChangeAt Go.RowKit Go.Sort
set_option linter.unusedVariables false
set_option linter.unusedSimpArgs false
attribute [local go_sem] World.cell?_alloc_some

def encH (x : Hg) : List Value := [Vu x.on.1, Vu x.on.2, .bool x.right]
abbrev hgv (x : Hg) : Value := .agg #[.int .u32 x.on.1, .int .u32 x.on.2, .bool x.right]
theorem encH_len (p : Hg) : (encH p).length = 3 := rfl
def HgS (w : World) (A : Option Addr) (l : List Hg) : Prop := Row w A (flat encH l)
theorem HgS.ext {w w' : World} {A : Option Addr} {l : List Hg} (h : HgS w A l) (hx : Ext w w') : HgS w' A l := Row.ext h hx
structure HgC (w : World) (b o : Nat) (x : Hg) : Prop where
  c0 : w.cell? ⟨b, o, none⟩ = some (Vu x.on.1)
  c1 : w.cell? ⟨b, o + 1, none⟩ = some (Vu x.on.2)
  c2 : w.cell? ⟨b, o + 2, none⟩ = some (.bool x.right)
theorem HgC.ext {w w' : World} {b o : Nat} {x : Hg} (h : HgC w b o x) (hx : Ext w w') : HgC w' b o x := ⟨hx.keep h.c0, hx.keep h.c1, hx.keep h.c2⟩
theorem HgS.at {w : World} {A : Option Addr} {l : List Hg} (h : HgS w A l) {k : Nat} (hk : k < l.length) : ∃ b o x, A = some ⟨b, o, none⟩ ∧ l[k]? = some x ∧ HgC w b (o + k * 3) x := by
  obtain ⟨x, hp⟩ : ∃ p, l[k]? = some p := ⟨l[k], List.getElem?_eq_getElem hk⟩
  obtain ⟨b, o, e, hc⟩ := Row.at h encH_len hp (by omega)
  exact ⟨b, o, x, e, hp, hc 0 _ rfl, hc 1 _ rfl, hc 2 _ rfl⟩
theorem HgS.new (w : World) (x : Hg) : HgS (w.alloc (.cells #[.int .u32 x.on.1, .int .u32 x.on.2, .bool x.right] 124)) (some ⟨w.heap.size, 0, none⟩) [x] := Row.new w #[.int .u32 x.on.1, .int .u32 x.on.2, .bool x.right] 124
def OwnH (w W : World) (v : Value) (l : List Hg) : Prop := OwnG 124 3 w W v l.length (flat encH l)
theorem OwnH.nil (w W : World) : OwnH w W (.slice none 0 0) [] := OwnG.nil _ _ _ _
theorem OwnH.ext {w W W' : World} {v : Value} {l : List Hg} (h : OwnH w W v l) (hx : Ext W W') : OwnH w W' v l := OwnG.ext h hx
theorem OwnH.down {w0 w W : World} {v : Value} {l : List Hg} (h : OwnH w W v l) (hx : Ext w0 w) : OwnH w0 W v l := OwnG.down h hx
theorem OwnH.open {w W : World} {v : Value} {l : List Hg} (h : OwnH w W v l) : ∃ A c, v = .slice A l.length c ∧ l.length ≤ c ∧ HgS W A l := by
  obtain ⟨A, c, rfl, hc⟩ := OwnG.form h
  exact ⟨A, c, rfl, hc, OwnG.row h⟩
end Go.Proofs.Ytmpomammieenjaa

namespace Go.Proofs.Ytmpomammieenjaa
open Go.ChangeShapes Go.WideShapes Go.ChangeAt Go.RowKit Go.Sort
set_option linter.unusedVariables false
set_option linter.unusedSimpArgs false
attribute [local go_sem] World.cell?_alloc_some

def HgIs (W : World) (q : Nat) (x : Hg) : Prop := W.heap[q]? = some (.cells #[Vu x.on.1, Vu x.on.2, .bool x.right] 124 (0, 0))
theorem HgIs.ext {W W' : World} {q : Nat} {x : Hg} (h : HgIs W q x) (hx : Ext W W') : HgIs W' q x := by
  unfold HgIs at h ⊢
  rw [RowKit.Below.block hx q (Array.getElem?_eq_some_iff.1 h).1]; exact h
theorem HgIs.store {W : World} {q : Nat} {x : Hg} (h : HgIs W q x) (a b : Int) (r : Bool) : HgIs (((W.setCell ⟨q, 0, none⟩ (Vu a)).setCell ⟨q, 1, none⟩ (Vu b)).setCell ⟨q, 2, none⟩ (.bool r)) q ⟨(a, b), r⟩ :=
  heap_setCell_same _ _ 2 _ _ _ (heap_setCell_same _ _ 1 _ _ _ (heap_setCell_same _ _ 0 _ _ _ h))
theorem HgIs.on {W : World} {q : Nat} {x : Hg} (h : HgIs W q x) (a b : Int) : HgIs ((W.setCell ⟨q, 0, none⟩ (Vu a)).setCell ⟨q, 1, none⟩ (Vu b)) q ⟨(a, b), x.right⟩ :=
  heap_setCell_same _ _ 1 _ _ _ (heap_setCell_same _ _ 0 _ _ _ h)
theorem HgIs.cells {W : World} {q : Nat} {x : Hg} (h : HgIs W q x) : W.cell? ⟨q, 0, none⟩ = some (Vu x.on.1) ∧ W.cell? ⟨q, 1, none⟩ = some (Vu x.on.2) ∧ W.cell? ⟨q, 2, none⟩ = some (.bool x.right) :=
  ⟨by rw [cell_of_row W q 0 _ _ _ h]; rfl, by rw [cell_of_row W q 1 _ _ _ h]; rfl, by rw [cell_of_row W q 2 _ _ _ h]; rfl⟩
theorem HgIs.thaw {W : World} {q : Nat} {x : Hg} (h : HgIs W q x) (o : Nat) : W.frozen? ⟨q, o, none⟩ = false := frozen_of_row W q o _ _ h
theorem HgIs.lt {W : World} {q : Nat} {x : Hg} (h : HgIs W q x) : q < W.heap.size := (Array.getElem?_eq_some_iff.1 h).1
theorem HgIs.new (W : World) (a b : Int) (r : Bool) : HgIs (W.alloc (.cells #[.int .u32 a, .int .u32 b, .bool r] 124)) W.heap.size ⟨(a, b), r⟩ := heap_alloc_new W _

end Go.Proofs.Ytmpomammieenjaa

namespace Go.Proofs.Ytmpomammieenjaa
open Go.ChangeShapes Go.WideShapes Go.ChangeAt Go.RowKit Go.Sort
set_option linter.unusedVariables false
set_option linter.unusedSimpArgs false
attribute [local go_sem] World.cell?_alloc_some

end Go.Proofs.Ytmpomammieenjaa

namespace Go.Proofs.Ytmpomammieenjaa
open Go.ChangeShapes Go.WideShapes Go.ChangeAt Go.RowKit Go.Sort
set_option linter.unusedVariables false
set_option linter.unusedSimpArgs false

abbrev Told := Value → World → Prop
abbrev SoftTab := List (Nat × Told)

theorem tab_ne {tab : SoftTab} (hnd : (tab.map (·.1)).Nodup) {j k d1 d2 : Nat} {R1 R2 : Told} (h1 : tab[j]? = some (d1, R1)) (h2 : tab[k]? = some (d2, R2)) (hjk : j ≠ k) : d1 ≠ d2 := by
  intro e
  have e1 : (tab.map (·.1))[j]? = some d1 := by simp [h1]
  have e2 : (tab.map (·.1))[k]? = some d1 := by simp [h2, e]
  obtain ⟨hj, e1⟩ := List.getElem?_eq_some_iff.1 e1
  obtain ⟨hk, e2⟩ := List.getElem?_eq_some_iff.1 e2
  have hp := List.pairwise_iff_getElem.1 hnd
  rcases Nat.lt_or_gt_of_ne hjk with h | h
  · exact hp j k hj hk h (e1.trans e2.symm)
  · exact hp k j hk hj h (e2.trans e1.symm)

theorem count_set : ∀ (l : List Bool) (i : Nat), l[i]? = some false → (l.set i true).count false + 1 = l.count false
  | [], i, h => by simp at h
  | b :: l, 0, h => by
    obtain rfl : b = false := by simpa using h
    simp
  | b :: l, i + 1, h => by
    have := count_set l i (by simpa using h)
    rw [List.set_cons_succ, List.count_cons, List.count_cons]
    omega

end Go.Proofs.Ytmpomammieenjaa

namespace Go.Proofs.Ytmpomammieenjaa
open Go.ChangeShapes Go.WideShapes Go.ChangeAt Go.RowKit Go.Sort
set_option linter.unusedVariables false
set_option linter.unusedSimpArgs false

structure SoftAtR (Rel : World → World → Prop) (tab : SoftTab) (a0 a : Act) (w W : World) (listed : Array Bool) : Prop where
  rel : Rel w W
  defers : a.defers = a0.defers
  size : a.tmps.size = a0.tmps.size
  out : ∀ t, t ∉ tab.map (·.1) → a.tmps[t]? = a0.tmps[t]?
  told : ∀ (k d : Nat) (R : Told), tab[k]? = some (d, R) → listed.getD k false = true → R (a.tmps.getD d undef) W

def SoftStepR (Rel : World → World → Prop) (P : Program) (ops : Array Oper) (tab : SoftTab) (Q : Exit → Act → World → Prop) (a0 : Act) (w : World) (k : Nat) (o : Oper) : Prop :=
  ∀ a W, Rel w W → (∀ t, t ∉ tab.map (·.1) → a.tmps.getD t undef = a0.tmps.getD t undef) → (∀ e ∈ o.after.toList, Region.binds .any e = true → ∀ (d : Nat) (R : Told), tab[e.on]? = some (d, R) → R (a.tmps.getD d undef) W ∧ d < a.tmps.size) →
    ∀ (d : Nat) (R : Told), tab[k]? = some (d, R) → wpOp P ops Q k (fun a' W' => ∃ v, a' = a.put (some d) v ∧ R v W' ∧ Rel W W') a W

def doneTo (n m : Nat) : Array Bool := (List.replicate n true ++ List.replicate (m - n) false).toArray

theorem wpAny_softR {Rel : World → World → Prop} {P : Program} {ops : Array Oper} {n : Nat} {tab : SoftTab} {Q : Exit → Act → World → Prop} {a0 : Act} {w : World} {rest : List Oper}
    (htrans : ∀ a b c, Rel a b → Rel b c → Rel a c)
    (hlen : tab.length = n) (hnd : (tab.map (·.1)).Nodup) (hsz : ∀ d ∈ tab.map (·.1), d < a0.tmps.size)
    (hn : n < ops.size) (hs : Region.sinkB .any ops n = true) (hc : Region.chainB .any ops n = true)
    (hback : ∀ (k : Nat) (o : Oper), k < n → ops[k]? = some o → ∀ e ∈ o.after.toList, Region.binds .any e = true → e.on < k)
    (hmono : ∀ (k d : Nat) (R : Told), tab[k]? = some (d, R) → ∀ (v : Value) (W W' : World), R v W → Rel W W' → R v W')
    (hstep : ∀ (k : Nat) (o : Oper), k < n → ops[k]? = some o → SoftStepR Rel P ops tab Q a0 w k o)
    (hrest : ∀ j, rest[j]? = ops[n + j]?) (hrl : rest.length = ops.size - n) (hseq : Region.seqB .any ops rest.length n (doneTo n ops.size) = true)
    (hend : ∀ a W, SoftAtR Rel tab a0 a w W (doneTo n ops.size) → wpList P ops Q rest a W) :
    ∀ (f : Nat) (listed : Array Bool) (a : Act) (W : World), HeadInv .any ops n listed → (listed.toList.take n).count false = f → SoftAtR Rel tab a0 a w W listed → wpAny P .any ops Q (f + rest.length) listed a W := by
  intro f
  induction f with
  | zero =>
    intro listed a W inv hcnt hI
    have e : listed = doneTo n ops.size := by
      apply Array.ext
      · rw [inv.size]; simp [doneTo]; omega
      · intro i h1 h2
        rcases Nat.lt_or_ge i n with h | h
        · have hm : listed[i] ∈ listed.toList.take n := by
            rw [List.mem_take_iff_getElem]
            exact ⟨i, by simp; omega, by simp⟩
          have hne : listed[i] ≠ false := fun e => by
            rw [e] at hm
            have := List.count_pos_iff.2 hm
            omega
          have : listed[i] = true := by simpa using hne
          rw [this]
          simp [doneTo, h]
        · have := inv.tail i h (by rw [← inv.size]; exact h1)
          have h3 : listed[i] = false := by simpa [Array.getD, h1] using this
          rw [h3]
          simp [doneTo, List.getElem_append, Nat.not_lt.2 h]
    subst e
    rw [Nat.zero_add]
    exact wpAny_of_seq (md := .any) rest n _ a W hrest hseq (hend a W hI)
  | succ f ih =>
    intro listed a W inv hcnt hI
    have hex : ∃ i, i < n ∧ listed.getD i true = false := by
      have hm : false ∈ listed.toList.take n := List.count_pos_iff.1 (by omega)
      rw [List.mem_take_iff_getElem] at hm
      obtain ⟨i, h1, h2⟩ := hm
      have h1' : i < n ∧ i < listed.size := by simp at h1; omega
      refine ⟨i, h1'.1, ?_⟩
      simp [Array.getD, h1'.2]
      simpa using h2
    obtain ⟨i0, hi0, hun0⟩ := hex
    rw [show f + 1 + rest.length = (f + rest.length) + 1 by omega]
    refine ⟨fun hr => ?_, fun i hi => ?_⟩
    · exfalso
      have key : ∀ k, k < n → listed.getD k false = true := by
        intro k
        induction k using Nat.strongRecOn with
        | ind k ihk =>
          intro hk
          rcases hb : listed.getD k false with _ | _
          · exfalso
            have hk' : k < listed.size := by rw [inv.size]; omega
            have hk2 : k < ops.size := by omega
            have hm : k ∈ Region.ready .any ops listed := by
              rw [mem_ready]
              refine ⟨getD_in hk' hb, ops[k], by simp [hk2], fun e he hb' => ?_⟩
              have hlt := hback k ops[k] hk (by simp [hk2]) e (by simpa using he) hb'
              exact ihk e.on hlt (by omega)
            rw [hr] at hm
            cases hm
          · rfl
      have h9 := key i0 hi0
      rw [getD_both hun0] at h9
      cases h9
    · have hin : i < n := by
        rcases Nat.lt_or_ge i n with h | h
        · exact h
        · exact absurd hi (tail_waits hs hc hn inv _ i0 rfl hi0 hun0 i h)
      obtain ⟨h1, o, ho, hdep⟩ := mem_ready.1 hi
      obtain ⟨⟨d, R⟩, htab⟩ : ∃ p, tab[i]? = some p := ⟨tab[i], List.getElem?_eq_getElem (by omega)⟩
      have hdsz : d < a.tmps.size := by rw [hI.size]; exact hsz d (List.mem_map.2 ⟨(d, R), List.mem_of_getElem? htab, rfl⟩)
      have hst := hstep i o hin ho a W hI.rel (fun t ht => by simp only [Array.getD_eq_getD_getElem?, hI.out t ht]) (fun e he hb d' R' ht' =>
        ⟨hI.told e.on d' R' ht' (hdep e (by simpa using he) hb), by rw [hI.size]; exact hsz d' (List.mem_map.2 ⟨(d', R'), List.mem_of_getElem? ht', rfl⟩)⟩) d R htab
      refine wpOp_mono (fun a' W' hh => ?_) hst
      obtain ⟨v, rfl, hR, hx⟩ := hh
      have hil' : i < listed.size := by rw [inv.size]; omega
      refine ih _ _ _ (inv.set hi hin) ?_ ⟨htrans _ _ _ hI.rel hx, hI.defers, by simp only [Act.put, Array.size_setIfInBounds]; exact hI.size, ?_, ?_⟩
      · have e : (listed.toList.take n)[i]? = some false := by
          have h3 : listed[i] = false := by simpa [Array.getD, hil'] using h1
          rw [List.getElem?_take, if_pos hin]
          simp [hil', h3]
        have := count_set (listed.toList.take n) i e
        rw [Array.toList_setIfInBounds, List.take_set]
        omega
      · intro t ht
        have hne : d ≠ t := fun e => ht (e ▸ List.mem_map.2 ⟨(d, R), List.mem_of_getElem? htab, rfl⟩)
        simp only [Act.put]
        rw [Array.getElem?_setIfInBounds_ne hne]
        exact hI.out t ht
      · intro k d2 R2 ht2 hl2
        simp only [Act.put]
        by_cases hki : k = i
        · subst hki
          obtain ⟨rfl, rfl⟩ : d = d2 ∧ R = R2 := by rw [htab] at ht2; injection ht2 with e; injection e with e1 e2; exact ⟨e1, e2⟩
          simp [hdsz]
          exact hR
        · have hne : d ≠ d2 := tab_ne hnd htab ht2 (fun e => hki e.symm)
          have h3 : listed.getD k false = true := by rw [getD_set_ne false (fun e => hki e.symm)] at hl2; exact hl2
          have := hmono k d2 R2 ht2 _ _ _ (hI.told k d2 R2 ht2 h3) hx
          simp only [Array.getD_eq_getD_getElem?, Array.getElem?_setIfInBounds_ne hne]
          simp only [Array.getD_eq_getD_getElem?] at this
          exact this

def SoftAllR (Rel : World → World → Prop) (P : Program) (ops : Array Oper) (tab : SoftTab) (Q : Exit → Act → World → Prop) (a0 : Act) (w : World) : List Oper → Nat → Prop
  | [], _ => True
  | o :: r, k => SoftStepR Rel P ops tab Q a0 w k o ∧ SoftAllR Rel P ops tab Q a0 w r (k + 1)
theorem softAllR_spec {Rel : World → World → Prop} {P : Program} {ops : Array Oper} {tab : SoftTab} {Q : Exit → Act → World → Prop} {a0 : Act} {w : World} : ∀ (l : List Oper) (k : Nat), SoftAllR Rel P ops tab Q a0 w l k → ∀ (j : Nat) (o : Oper), l[j]? = some o → SoftStepR Rel P ops tab Q a0 w (k + j) o
  | [], _, _, j, o, h => by simp at h
  | x :: l, k, h, 0, o, ho => by
    obtain rfl : x = o := by simpa using ho
    exact h.1
  | x :: l, k, h, j + 1, o, ho => by
    have := softAllR_spec l (k + 1) h.2 j o (by simpa using ho)
    rwa [Nat.add_assoc, Nat.add_comm 1 j] at this
def SoftMonoR (Rel : World → World → Prop) (tab : SoftTab) : Prop := ∀ p ∈ tab, ∀ (v : Value) (W W' : World), p.2 v W → Rel W W' → p.2 v W'
def softBackN (n : Nat) (l : List Oper) : Bool := (List.range n).all fun k => match l[k]? with
  | some o => o.after.toList.all fun e => !Region.binds .any e || decide (e.on < k)
  | none => true
theorem softBackN_spec {n : Nat} {l : List Oper} (h : softBackN n l = true) : ∀ (k : Nat) (o : Oper), k < n → l[k]? = some o → ∀ e ∈ o.after.toList, Region.binds .any e = true → e.on < k := by
  intro k o hk ho e he hb
  have := List.all_eq_true.1 h k (List.mem_range.2 hk)
  simp only [ho] at this
  have := List.all_eq_true.1 this e he
  simpa [hb] using this
def softForm (n : Nat) (l : List Oper) : Bool := decide (n < l.length) && Region.sinkB .any l.toArray n && Region.chainB .any l.toArray n && softBackN n l && Region.seqB .any l.toArray (l.length - n) n (doneTo n l.length)

theorem wp_soft_tail (Rel : World → World → Prop) {P : Program} {l : List Oper} (n : Nat) (tab : SoftTab) {Q : Exit → Act → World → Prop} {a : Act} {w : World} {id : Nat} (hm : P.follows .mixedOrders = true)
    (hform : softForm n l = true) (htrans : ∀ a b c, Rel a b → Rel b c → Rel a c) (hdraw : Rel w { w with drawn := w.drawn + 1 })
    (hlen : tab.length = n) (hnd : (tab.map (·.1)).Nodup) (hsz : ∀ d ∈ tab.map (·.1), d < a.tmps.size) (hmono : SoftMonoR Rel tab)
    (hend : ∀ a' W, SoftAtR Rel tab a a' w W (doneTo n l.length) → wpList P l.toArray Q (l.drop n) a' W)
    (hstep : SoftAllR Rel P l.toArray tab Q a w (l.take n) 0) : (Code.region id l.toArray true).wp P Q a w := by
  unfold softForm at hform
  simp only [Bool.and_eq_true, decide_eq_true_eq] at hform
  obtain ⟨⟨⟨⟨hn, hs⟩, hc⟩, hb⟩, hq⟩ := hform
  have hdl : (l.drop n).length = l.length - n := by simp
  have inv0 : HeadInv .any l.toArray n (Array.replicate l.toArray.size false) :=
    ⟨by simp, fun j oj _ hl => (by rw [getD_replicate_false] at hl; cases hl), fun t _ ht => getD_in (by simpa using ht) (getD_replicate_false _ _)⟩
  refine wp_region_any hm ?_
  have := wpAny_softR (Rel := Rel) (P := P) (ops := l.toArray) (n := n) (tab := tab) (Q := Q) (a0 := a) (w := w) (rest := l.drop n) htrans hlen hnd hsz (by simpa using hn) hs hc
    (fun k o hk ho => softBackN_spec hb k o hk (by simpa using ho)) (fun k d R h v W W' => hmono (d, R) (List.mem_of_getElem? h) v W W')
    (fun k o hk ho => by
      have := softAllR_spec (l.take n) 0 hstep k o (by rw [List.getElem?_take, if_pos hk]; simpa using ho)
      rwa [Nat.zero_add] at this)
    (fun j => by simp [List.getElem?_drop]) (by simp) (by rw [hdl]; simpa using hq) (fun a' W h => hend a' W (by simpa using h)) n (Array.replicate l.toArray.size false) a { w with drawn := w.drawn + 1 } inv0
    (by
      simp
      omega) ⟨hdraw, rfl, rfl, fun _ _ => rfl, fun k d R h1 h2 => by rw [getD_replicate_false] at h2; cases h2⟩
  rw [hdl] at this
  have e : n + (l.length - n) = l.toArray.size := by simp; omega
  rw [e] at this
  exact this

theorem softR_val {Rel : World → World → Prop} {P : Program} {ops : Array Oper} {tab : SoftTab} {Q : Exit → Act → World → Prop} {a0 : Act} {w : World} {k : Nat} {o : Oper} (d : Nat) (R : Told) (hk : ops[k]? = some o) (hd : o.dst = some d) (htab : tab[k]? = some (d, R))
    (h : ∀ (a : Act) (W : World), Rel w W → (∀ t, t ∉ tab.map (·.1) → a.tmps.getD t undef = a0.tmps.getD t undef) → (∀ e ∈ o.after.toList, Region.binds .any e = true → ∀ (d : Nat) (R : Told), tab[e.on]? = some (d, R) → R (a.tmps.getD d undef) W ∧ d < a.tmps.size) →
      Region.wanted o (yielded ops a.tmps) = true ∧ ∃ v W', (execOp a.eval o).run P W = .ok (.value v) W' ∧ R v W' ∧ Rel W W') : SoftStepR Rel P ops tab Q a0 w k o := by
  intro a W hx hout hdep d' R' ht
  rw [htab] at ht
  injection ht with ht
  injection ht with e1 e2
  subst e1
  subst e2
  obtain ⟨hw, v, W', hrun, hR, hE⟩ := h a W hx hout hdep
  unfold wpOp
  simp only [hk]
  rw [if_pos hw]
  refine Or.inl ?_
  unfold Oper.wp
  rw [hrun, Oper.upon_value, hd]
  exact ⟨v, rfl, hR, hE⟩
theorem softR_call {Rel : World → World → Prop} {P : Program} {ops : Array Oper} {tab : SoftTab} {Q : Exit → Act → World → Prop} {a0 : Act} {w : World} {k : Nat} {o : Oper} (d : Nat) (R : Told) (hk : ops[k]? = some o) (hd : o.dst = some d) (htab : tab[k]? = some (d, R))
    (h : ∀ (a : Act) (W : World), Rel w W → (∀ t, t ∉ tab.map (·.1) → a.tmps.getD t undef = a0.tmps.getD t undef) → (∀ e ∈ o.after.toList, Region.binds .any e = true → ∀ (d : Nat) (R : Told), tab[e.on]? = some (d, R) → R (a.tmps.getD d undef) W ∧ d < a.tmps.size) →
      Region.wanted o (yielded ops a.tmps) = true ∧ ∃ f args, (execOp a.eval o).run P W = .ok (.enter f args) W ∧ Calls P f args W fun e W' => ∃ v, e = .returned v ∧ R v W' ∧ Rel W W') : SoftStepR Rel P ops tab Q a0 w k o := by
  intro a W hx hout hdep d' R' ht
  rw [htab] at ht
  injection ht with ht
  injection ht with e1 e2
  subst e1
  subst e2
  obtain ⟨hw, f, args, hrun, hc⟩ := h a W hx hout hdep
  unfold wpOp
  simp only [hk]
  rw [if_pos hw]
  refine Or.inl ?_
  unfold Oper.wp
  rw [hrun, Oper.upon_enter]
  refine hc.mono ?_
  rintro e W' ⟨v, rfl, hR, hE⟩
  rw [hd]
  exact ⟨v, rfl, hR, hE⟩

theorem Act.put_self (a : Act) (d : Nat) (hd : d < a.tmps.size) : a.put (some d) (a.tmps.getD d undef) = a := by
  cases a with
  | mk t df =>
    simp only [Act.put]
    congr 1
    apply Array.ext
    · simp
    · intro i h1 h2
      simp only at hd
      by_cases h : d = i
      · subst h; simp [hd]
      · rw [Array.getElem_setIfInBounds_ne _ h]
def putAll : Array Value → List (Nat × Value) → Array Value
  | t, [] => t
  | t, p :: r => putAll (t.setIfInBounds p.1 p.2) r
theorem putAll_of (t' : Array Value) : ∀ (D : List Nat) (t : Array Value), t'.size = t.size → (∀ i, i ∉ D → t'[i]? = t[i]?) → t' = putAll t (D.map fun d => (d, t'.getD d undef))
  | [], t, hs, h => by
    apply Array.ext hs
    intro i h1 h2
    have := h i (by simp)
    rw [Array.getElem?_eq_getElem h1, Array.getElem?_eq_getElem h2] at this
    exact Option.some.inj this
  | d :: D, t, hs, h => by
    refine putAll_of t' D (t.setIfInBounds d (t'.getD d undef)) (by simpa using hs) fun i hi => ?_
    by_cases hd : d = i
    · subst hd
      rcases Nat.lt_or_ge d t.size with g | g
      · have g' : d < t'.size := by omega
        simp [g, g']
      · rw [Array.getElem?_eq_none (by omega), Array.getElem?_eq_none (by simpa using g)]
    · rw [Array.getElem?_setIfInBounds_ne hd]
      exact h i (by simp only [List.mem_cons, not_or]; exact ⟨fun e => hd e.symm, hi⟩)
def ToldAll : SoftTab → List Value → World → Prop
  | [], [], _ => True
  | p :: t, v :: vs, W => p.2 v W ∧ ToldAll t vs W
  | _, _, _ => False
theorem toldAll_of {W : World} {f : Nat → Value} : ∀ (tab : SoftTab), (∀ (k d : Nat) (R : Told), tab[k]? = some (d, R) → R (f d) W) → ToldAll tab (tab.map fun p => f p.1) W
  | [], _ => trivial
  | p :: t, h => ⟨h 0 p.1 p.2 rfl, toldAll_of t fun k d R hk => h (k + 1) d R (by simpa using hk)⟩
theorem zip_told (f : Nat → Value) : ∀ (tab : SoftTab), (tab.map (·.1)).zip (tab.map fun p => f p.1) = (tab.map (·.1)).map fun d => (d, f d)
  | [] => rfl
  | p :: t => by simp only [List.map_cons, List.zip_cons_cons, zip_told f t]
theorem wp_soft_frame (Rel : World → World → Prop) {P : Program} {l : List Oper} (n : Nat) (tab : SoftTab) {Q : Exit → Act → World → Prop} {a : Act} {w : World} {id : Nat} (hm : P.follows .mixedOrders = true)
    (hform : softForm n l = true) (htrans : ∀ a b c, Rel a b → Rel b c → Rel a c) (hdraw : Rel w { w with drawn := w.drawn + 1 })
    (hlen : tab.length = n) (hnd : (tab.map (·.1)).Nodup) (hsz : ∀ d ∈ tab.map (·.1), d < a.tmps.size) (hmono : SoftMonoR Rel tab)
    (hend : ∀ (W : World) (vs : List Value), ToldAll tab vs W → Rel w W → wpList P l.toArray Q (l.drop n) ⟨putAll a.tmps ((tab.map (·.1)).zip vs), a.defers⟩ W)
    (hstep : SoftAllR Rel P l.toArray tab Q a w (l.take n) 0) : (Code.region id l.toArray true).wp P Q a w := by
  refine wp_soft_tail Rel n tab hm hform htrans hdraw hlen hnd hsz hmono (fun a' W hS => ?_) hstep
  have h1 := hend W (tab.map fun p => a'.tmps.getD p.1 undef) (toldAll_of (f := fun d => a'.tmps.getD d undef) tab fun k d R hk => hS.told k d R hk (by
    have hk' : k < n := by have := (List.getElem?_eq_some_iff.1 hk).1; omega
    simp [doneTo, hk', List.getElem?_append])) hS.rel
  rw [zip_told (fun d => a'.tmps.getD d undef), ← putAll_of a'.tmps _ a.tmps hS.size hS.out, ← hS.defers] at h1
  exact h1

end Go.Proofs.Ytmpomammieenjaa
