/-
  Several texts of this seat in one file, each in the namespace again; no claim stands here.
-/
import Derived.StillTail
import Derived.Deep.DeepCutAuto
import Derived.Maps.OwnOps
import Derived.Test.YtnocdfmmhnnbeaaXN
namespace Go.Proofs.Ytnocdfmmhnnbeaa
open Go.ChangeShapes Go.WideShapes Go.ChangeAt Go.RowKit Go.Sort
set_option linter.unusedVariables false
set_option linter.unusedSimpArgs false

/-- the slots that are filled hold what is told; the others are as they were; the world has gone on by Rel -/
structure SoftAtR (Rel : World → World → Prop) (tab : SoftTab) (a0 a : Act) (w W : World) (listed : Array Bool) : Prop where
  rel : Rel w W
  defers : a.defers = a0.defers
  size : a.tmps.size = a0.tmps.size
  out : ∀ t, t ∉ tab.map (·.1) → a.tmps[t]? = a0.tmps[t]?
  told : ∀ (k d : Nat) (R : Told), tab[k]? = some (d, R) → listed.getD k false = true → R (a.tmps.getD d undef) W

def SoftStepR (Rel : World → World → Prop) (P : Program) (ops : Array Oper) (tab : SoftTab) (Q : Exit → Act → World → Prop) (a0 : Act) (w : World) (k : Nat) (o : Oper) : Prop :=
  ∀ a W, Rel w W → (∀ t, t ∉ tab.map (·.1) → a.tmps.getD t undef = a0.tmps.getD t undef) → (∀ e ∈ o.after.toList, Region.binds .any e = true → ∀ (d : Nat) (R : Told), tab[e.on]? = some (d, R) → R (a.tmps.getD d undef) W ∧ d < a.tmps.size) →
    ∀ (d : Nat) (R : Told), tab[k]? = some (d, R) → wpOp P ops Q k (fun a' W' => ∃ v, a' = a.put (some d) v ∧ R v W' ∧ Rel W W') a W

def doneTo (n m : Nat) : Array Bool := (List.replicate n true ++ List.replicate (m - n) false).toArray

theorem wpAny_softR {Rel : World → World → Prop} {P : Program} {ops : Array Oper} {n : Nat} {tab : SoftTab} {Q : Exit → Act → World → Prop} {a0 : Act} {w : World} {rest : List Oper}
    (htrans : ∀ a b c, Rel a b → Rel b c → Rel a c)
    (hlen : tab.length = n) (hnd : (tab.map (·.1)).Nodup) (hsz : ∀ d ∈ tab.map (·.1), d < a0.tmps.size)
    (hn : n < ops.size) (hs : Region.sinkB .any ops n = true) (hc : Region.chainB .any ops n = true)
    (hback : ∀ (k : Nat) (o : Oper), k < n → ops[k]? = some o → ∀ e ∈ o.after.toList, Region.binds .any e = true → e.on < k)
    (hmono : ∀ (k d : Nat) (R : Told), tab[k]? = some (d, R) → ∀ (v : Value) (W W' : World), R v W → Rel W W' → R v W')
    (hstep : ∀ (k : Nat) (o : Oper), k < n → ops[k]? = some o → SoftStepR Rel P ops tab Q a0 w k o)
    (hrest : ∀ j, rest[j]? = ops[n + j]?) (hrl : rest.length = ops.size - n) (hseq : Region.seqB .any ops rest.length n (doneTo n ops.size) = true)
    (hend : ∀ a W, SoftAtR Rel tab a0 a w W (doneTo n ops.size) → wpList P ops Q rest a W) :
    ∀ (f : Nat) (listed : Array Bool) (a : Act) (W : World), HeadInv .any ops n listed → (listed.toList.take n).count false = f → SoftAtR Rel tab a0 a w W listed → wpAny P .any ops Q (f + rest.length) listed a W := by
  intro f
  induction f with
  | zero =>
    intro listed a W inv hcnt hI
    have e : listed = doneTo n ops.size := by
      apply Array.ext
      · rw [inv.size]; simp [doneTo]; omega
      · intro i h1 h2
        rcases Nat.lt_or_ge i n with h | h
        · have hm : listed[i] ∈ listed.toList.take n := by
            rw [List.mem_take_iff_getElem]
            exact ⟨i, by simp; omega, by simp⟩
          have hne : listed[i] ≠ false := fun e => by
            rw [e] at hm
            have := List.count_pos_iff.2 hm
            omega
          have : listed[i] = true := by simpa using hne
          rw [this]
          simp [doneTo, h]
        · have := inv.tail i h (by rw [← inv.size]; exact h1)
          have h3 : listed[i] = false := by simpa [Array.getD, h1] using this
          rw [h3]
          simp [doneTo, List.getElem_append, Nat.not_lt.2 h]
    subst e
    rw [Nat.zero_add]
    exact wpAny_of_seq (md := .any) rest n _ a W hrest hseq (hend a W hI)
  | succ f ih =>
    intro listed a W inv hcnt hI
    have hex : ∃ i, i < n ∧ listed.getD i true = false := by
      have hm : false ∈ listed.toList.take n := List.count_pos_iff.1 (by omega)
      rw [List.mem_take_iff_getElem] at hm
      obtain ⟨i, h1, h2⟩ := hm
      have h1' : i < n ∧ i < listed.size := by simp at h1; omega
      refine ⟨i, h1'.1, ?_⟩
      simp [Array.getD, h1'.2]
      simpa using h2
    obtain ⟨i0, hi0, hun0⟩ := hex
    rw [show f + 1 + rest.length = (f + rest.length) + 1 by omega]
    refine ⟨fun hr => ?_, fun i hi => ?_⟩
    · exfalso
      have key : ∀ k, k < n → listed.getD k false = true := by
        intro k
        induction k using Nat.strongRecOn with
        | ind k ihk =>
          intro hk
          rcases hb : listed.getD k false with _ | _
          · exfalso
            have hk' : k < listed.size := by rw [inv.size]; omega
            have hk2 : k < ops.size := by omega
            have hm : k ∈ Region.ready .any ops listed := by
              rw [mem_ready]
              refine ⟨getD_in hk' hb, ops[k], by simp [hk2], fun e he hb' => ?_⟩
              have hlt := hback k ops[k] hk (by simp [hk2]) e (by simpa using he) hb'
              exact ihk e.on hlt (by omega)
            rw [hr] at hm
            cases hm
          · rfl
      have h9 := key i0 hi0
      rw [getD_both hun0] at h9
      cases h9
    · have hin : i < n := by
        rcases Nat.lt_or_ge i n with h | h
        · exact h
        · exact absurd hi (tail_waits hs hc hn inv _ i0 rfl hi0 hun0 i h)
      obtain ⟨h1, o, ho, hdep⟩ := mem_ready.1 hi
      obtain ⟨⟨d, R⟩, htab⟩ : ∃ p, tab[i]? = some p := ⟨tab[i], List.getElem?_eq_getElem (by omega)⟩
      have hdsz : d < a.tmps.size := by rw [hI.size]; exact hsz d (List.mem_map.2 ⟨(d, R), List.mem_of_getElem? htab, rfl⟩)
      have hst := hstep i o hin ho a W hI.rel (fun t ht => by simp only [Array.getD_eq_getD_getElem?, hI.out t ht]) (fun e he hb d' R' ht' =>
        ⟨hI.told e.on d' R' ht' (hdep e (by simpa using he) hb), by rw [hI.size]; exact hsz d' (List.mem_map.2 ⟨(d', R'), List.mem_of_getElem? ht', rfl⟩)⟩) d R htab
      refine wpOp_mono (fun a' W' hh => ?_) hst
      obtain ⟨v, rfl, hR, hx⟩ := hh
      have hil' : i < listed.size := by rw [inv.size]; omega
      refine ih _ _ _ (inv.set hi hin) ?_ ⟨htrans _ _ _ hI.rel hx, hI.defers, by simp only [Act.put, Array.size_setIfInBounds]; exact hI.size, ?_, ?_⟩
      · have e : (listed.toList.take n)[i]? = some false := by
          have h3 : listed[i] = false := by simpa [Array.getD, hil'] using h1
          rw [List.getElem?_take, if_pos hin]
          simp [hil', h3]
        have := count_set (listed.toList.take n) i e
        rw [Array.toList_setIfInBounds, List.take_set]
        omega
      · intro t ht
        have hne : d ≠ t := fun e => ht (e ▸ List.mem_map.2 ⟨(d, R), List.mem_of_getElem? htab, rfl⟩)
        simp only [Act.put]
        rw [Array.getElem?_setIfInBounds_ne hne]
        exact hI.out t ht
      · intro k d2 R2 ht2 hl2
        simp only [Act.put]
        by_cases hki : k = i
        · subst hki
          obtain ⟨rfl, rfl⟩ : d = d2 ∧ R = R2 := by rw [htab] at ht2; injection ht2 with e; injection e with e1 e2; exact ⟨e1, e2⟩
          simp [hdsz]
          exact hR
        · have hne : d ≠ d2 := tab_ne hnd htab ht2 (fun e => hki e.symm)
          have h3 : listed.getD k false = true := by rw [getD_set_ne false (fun e => hki e.symm)] at hl2; exact hl2
          have := hmono k d2 R2 ht2 _ _ _ (hI.told k d2 R2 ht2 h3) hx
          simp only [Array.getD_eq_getD_getElem?, Array.getElem?_setIfInBounds_ne hne]
          simp only [Array.getD_eq_getD_getElem?] at this
          exact this

/-- each operation of the head in its turn -/
def SoftAllR (Rel : World → World → Prop) (P : Program) (ops : Array Oper) (tab : SoftTab) (Q : Exit → Act → World → Prop) (a0 : Act) (w : World) : List Oper → Nat → Prop
  | [], _ => True
  | o :: r, k => SoftStepR Rel P ops tab Q a0 w k o ∧ SoftAllR Rel P ops tab Q a0 w r (k + 1)
theorem softAllR_spec {Rel : World → World → Prop} {P : Program} {ops : Array Oper} {tab : SoftTab} {Q : Exit → Act → World → Prop} {a0 : Act} {w : World} : ∀ (l : List Oper) (k : Nat), SoftAllR Rel P ops tab Q a0 w l k → ∀ (j : Nat) (o : Oper), l[j]? = some o → SoftStepR Rel P ops tab Q a0 w (k + j) o
  | [], _, _, j, o, h => by simp at h
  | x :: l, k, h, 0, o, ho => by
    obtain rfl : x = o := by simpa using ho
    exact h.1
  | x :: l, k, h, j + 1, o, ho => by
    have := softAllR_spec l (k + 1) h.2 j o (by simpa using ho)
    rwa [Nat.add_assoc, Nat.add_comm 1 j] at this
def SoftMonoR (Rel : World → World → Prop) (tab : SoftTab) : Prop := ∀ p ∈ tab, ∀ (v : Value) (W W' : World), p.2 v W → Rel W W' → p.2 v W'
def softBackN (n : Nat) (l : List Oper) : Bool := (List.range n).all fun k => match l[k]? with
  | some o => o.after.toList.all fun e => !Region.binds .any e || decide (e.on < k)
  | none => true
theorem softBackN_spec {n : Nat} {l : List Oper} (h : softBackN n l = true) : ∀ (k : Nat) (o : Oper), k < n → l[k]? = some o → ∀ e ∈ o.after.toList, Region.binds .any e = true → e.on < k := by
  intro k o hk ho e he hb
  have := List.all_eq_true.1 h k (List.mem_range.2 hk)
  simp only [ho] at this
  have := List.all_eq_true.1 this e he
  simpa [hb] using this
/-- what is asked of the region's form -/
def softForm (n : Nat) (l : List Oper) : Bool := decide (n < l.length) && Region.sinkB .any l.toArray n && Region.chainB .any l.toArray n && softBackN n l && Region.seqB .any l.toArray (l.length - n) n (doneTo n l.length)

/-- the region: a head of n operations by what its slots are told to hold, and the tail -/
theorem wp_soft_tail (Rel : World → World → Prop) {P : Program} {l : List Oper} (n : Nat) (tab : SoftTab) {Q : Exit → Act → World → Prop} {a : Act} {w : World} {id : Nat} (hm : P.follows .mixedOrders = true)
    (hform : softForm n l = true) (htrans : ∀ a b c, Rel a b → Rel b c → Rel a c) (hdraw : Rel w { w with drawn := w.drawn + 1 })
    (hlen : tab.length = n) (hnd : (tab.map (·.1)).Nodup) (hsz : ∀ d ∈ tab.map (·.1), d < a.tmps.size) (hmono : SoftMonoR Rel tab)
    (hend : ∀ a' W, SoftAtR Rel tab a a' w W (doneTo n l.length) → wpList P l.toArray Q (l.drop n) a' W)
    (hstep : SoftAllR Rel P l.toArray tab Q a w (l.take n) 0) : (Code.region id l.toArray true).wp P Q a w := by
  unfold softForm at hform
  simp only [Bool.and_eq_true, decide_eq_true_eq] at hform
  obtain ⟨⟨⟨⟨hn, hs⟩, hc⟩, hb⟩, hq⟩ := hform
  have hdl : (l.drop n).length = l.length - n := by simp
  have inv0 : HeadInv .any l.toArray n (Array.replicate l.toArray.size false) :=
    ⟨by simp, fun j oj _ hl => (by rw [getD_replicate_false] at hl; cases hl), fun t _ ht => getD_in (by simpa using ht) (getD_replicate_false _ _)⟩
  refine wp_region_any hm ?_
  have := wpAny_softR (Rel := Rel) (P := P) (ops := l.toArray) (n := n) (tab := tab) (Q := Q) (a0 := a) (w := w) (rest := l.drop n) htrans hlen hnd hsz (by simpa using hn) hs hc
    (fun k o hk ho => softBackN_spec hb k o hk (by simpa using ho)) (fun k d R h v W W' => hmono (d, R) (List.mem_of_getElem? h) v W W')
    (fun k o hk ho => by
      have := softAllR_spec (l.take n) 0 hstep k o (by rw [List.getElem?_take, if_pos hk]; simpa using ho)
      rwa [Nat.zero_add] at this)
    (fun j => by simp [List.getElem?_drop]) (by simp) (by rw [hdl]; simpa using hq) (fun a' W h => hend a' W (by simpa using h)) n (Array.replicate l.toArray.size false) a { w with drawn := w.drawn + 1 } inv0
    (by
      simp
      omega) ⟨hdraw, rfl, rfl, fun _ _ => rfl, fun k d R h1 h2 => by rw [getD_replicate_false] at h2; cases h2⟩
  rw [hdl] at this
  have e : n + (l.length - n) = l.toArray.size := by simp; omega
  rw [e] at this
  exact this

/-- an operation that yields a value -/
theorem softR_val {Rel : World → World → Prop} {P : Program} {ops : Array Oper} {tab : SoftTab} {Q : Exit → Act → World → Prop} {a0 : Act} {w : World} {k : Nat} {o : Oper} (d : Nat) (R : Told) (hk : ops[k]? = some o) (hd : o.dst = some d) (htab : tab[k]? = some (d, R))
    (h : ∀ (a : Act) (W : World), Rel w W → (∀ t, t ∉ tab.map (·.1) → a.tmps.getD t undef = a0.tmps.getD t undef) → (∀ e ∈ o.after.toList, Region.binds .any e = true → ∀ (d : Nat) (R : Told), tab[e.on]? = some (d, R) → R (a.tmps.getD d undef) W ∧ d < a.tmps.size) →
      Region.wanted o (yielded ops a.tmps) = true ∧ ∃ v W', (execOp a.eval o).run P W = .ok (.value v) W' ∧ R v W' ∧ Rel W W') : SoftStepR Rel P ops tab Q a0 w k o := by
  intro a W hx hout hdep d' R' ht
  rw [htab] at ht
  injection ht with ht
  injection ht with e1 e2
  subst e1
  subst e2
  obtain ⟨hw, v, W', hrun, hR, hE⟩ := h a W hx hout hdep
  unfold wpOp
  simp only [hk]
  rw [if_pos hw]
  refine Or.inl ?_
  unfold Oper.wp
  rw [hrun, Oper.upon_value, hd]
  exact ⟨v, rfl, hR, hE⟩
/-- a call -/
theorem softR_call {Rel : World → World → Prop} {P : Program} {ops : Array Oper} {tab : SoftTab} {Q : Exit → Act → World → Prop} {a0 : Act} {w : World} {k : Nat} {o : Oper} (d : Nat) (R : Told) (hk : ops[k]? = some o) (hd : o.dst = some d) (htab : tab[k]? = some (d, R))
    (h : ∀ (a : Act) (W : World), Rel w W → (∀ t, t ∉ tab.map (·.1) → a.tmps.getD t undef = a0.tmps.getD t undef) → (∀ e ∈ o.after.toList, Region.binds .any e = true → ∀ (d : Nat) (R : Told), tab[e.on]? = some (d, R) → R (a.tmps.getD d undef) W ∧ d < a.tmps.size) →
      Region.wanted o (yielded ops a.tmps) = true ∧ ∃ f args, (execOp a.eval o).run P W = .ok (.enter f args) W ∧ Calls P f args W fun e W' => ∃ v, e = .returned v ∧ R v W' ∧ Rel W W') : SoftStepR Rel P ops tab Q a0 w k o := by
  intro a W hx hout hdep d' R' ht
  rw [htab] at ht
  injection ht with ht
  injection ht with e1 e2
  subst e1
  subst e2
  obtain ⟨hw, f, args, hrun, hc⟩ := h a W hx hout hdep
  unfold wpOp
  simp only [hk]
  rw [if_pos hw]
  refine Or.inl ?_
  unfold Oper.wp
  rw [hrun, Oper.upon_enter]
  refine hc.mono ?_
  rintro e W' ⟨v, rfl, hR, hE⟩
  rw [hd]
  exact ⟨v, rfl, hR, hE⟩

theorem Act.put_self (a : Act) (d : Nat) (hd : d < a.tmps.size) : a.put (some d) (a.tmps.getD d undef) = a := by
  cases a with
  | mk t df =>
    simp only [Act.put]
    congr 1
    apply Array.ext
    · simp
    · intro i h1 h2
      simp only at hd
      by_cases h : d = i
      · subst h; simp [hd]
      · rw [Array.getElem_setIfInBounds_ne _ h]
/-- an operation that fills no slot (a store): the slot of its row is one that nobody reads -/
theorem softR_none {Rel : World → World → Prop} {P : Program} {ops : Array Oper} {tab : SoftTab} {Q : Exit → Act → World → Prop} {a0 : Act} {w : World} {k : Nat} {o : Oper} (d : Nat) (hk : ops[k]? = some o) (hd : o.dst = none) (htab : tab[k]? = some (d, fun _ _ => True))
    (h : ∀ (a : Act) (W : World), Rel w W → (∀ t, t ∉ tab.map (·.1) → a.tmps.getD t undef = a0.tmps.getD t undef) → (∀ e ∈ o.after.toList, Region.binds .any e = true → ∀ (d : Nat) (R : Told), tab[e.on]? = some (d, R) → R (a.tmps.getD d undef) W ∧ d < a.tmps.size) →
      Region.wanted o (yielded ops a.tmps) = true ∧ ∃ W', (execOp a.eval o).run P W = .ok .skip W' ∧ Rel W W') : SoftStepR Rel P ops tab Q a0 w k o := by
  intro a W hx hout hdep d' R' ht
  rw [htab] at ht
  injection ht with ht
  injection ht with e1 e2
  subst e1
  subst e2
  obtain ⟨hw, W', hrun, hE⟩ := h a W hx hout hdep
  unfold wpOp
  simp only [hk]
  rw [if_pos hw]
  refine Or.inl ?_
  unfold Oper.wp
  rw [hrun]
  show ∃ v, a.put o.dst undef = a.put (some d) v ∧ _
  rw [hd]
  rcases Nat.lt_or_ge d a.tmps.size with hs | hs
  · exact ⟨_, (Act.put_self a d hs).symm, trivial, hE⟩
  · refine ⟨undef, ?_, trivial, hE⟩
    cases a with
    | mk t df => simp only [Act.put]; congr 1; exact (Array.setIfInBounds_eq_of_size_le hs).symm

/-- slots are filled, one behind the other -/
def putAll : Array Value → List (Nat × Value) → Array Value
  | t, [] => t
  | t, p :: r => putAll (t.setIfInBounds p.1 p.2) r
theorem putAll_of (t' : Array Value) : ∀ (D : List Nat) (t : Array Value), t'.size = t.size → (∀ i, i ∉ D → t'[i]? = t[i]?) → t' = putAll t (D.map fun d => (d, t'.getD d undef))
  | [], t, hs, h => by
    apply Array.ext hs
    intro i h1 h2
    have := h i (by simp)
    rw [Array.getElem?_eq_getElem h1, Array.getElem?_eq_getElem h2] at this
    exact Option.some.inj this
  | d :: D, t, hs, h => by
    refine putAll_of t' D (t.setIfInBounds d (t'.getD d undef)) (by simpa using hs) fun i hi => ?_
    by_cases hd : d = i
    · subst hd
      rcases Nat.lt_or_ge d t.size with g | g
      · have g' : d < t'.size := by omega
        simp [g, g']
      · rw [Array.getElem?_eq_none (by omega), Array.getElem?_eq_none (by simpa using g)]
    · rw [Array.getElem?_setIfInBounds_ne hd]
      exact h i (by simp only [List.mem_cons, not_or]; exact ⟨fun e => hd e.symm, hi⟩)
/-- what is told, of values one behind the other -/
def ToldAll : SoftTab → List Value → World → Prop
  | [], [], _ => True
  | p :: t, v :: vs, W => p.2 v W ∧ ToldAll t vs W
  | _, _, _ => False
theorem toldAll_of {W : World} {f : Nat → Value} : ∀ (tab : SoftTab), (∀ (k d : Nat) (R : Told), tab[k]? = some (d, R) → R (f d) W) → ToldAll tab (tab.map fun p => f p.1) W
  | [], _ => trivial
  | p :: t, h => ⟨h 0 p.1 p.2 rfl, toldAll_of t fun k d R hk => h (k + 1) d R (by simpa using hk)⟩
theorem zip_told (f : Nat → Value) : ∀ (tab : SoftTab), (tab.map (·.1)).zip (tab.map fun p => f p.1) = (tab.map (·.1)).map fun d => (d, f d)
  | [] => rfl
  | p :: t => by simp only [List.map_cons, List.zip_cons_cons, zip_told f t]
/-- the region, the frame behind it written out -/
theorem wp_soft_frame (Rel : World → World → Prop) {P : Program} {l : List Oper} (n : Nat) (tab : SoftTab) {Q : Exit → Act → World → Prop} {a : Act} {w : World} {id : Nat} (hm : P.follows .mixedOrders = true)
    (hform : softForm n l = true) (htrans : ∀ a b c, Rel a b → Rel b c → Rel a c) (hdraw : Rel w { w with drawn := w.drawn + 1 })
    (hlen : tab.length = n) (hnd : (tab.map (·.1)).Nodup) (hsz : ∀ d ∈ tab.map (·.1), d < a.tmps.size) (hmono : SoftMonoR Rel tab)
    (hend : ∀ (W : World) (vs : List Value), ToldAll tab vs W → Rel w W → wpList P l.toArray Q (l.drop n) ⟨putAll a.tmps ((tab.map (·.1)).zip vs), a.defers⟩ W)
    (hstep : SoftAllR Rel P l.toArray tab Q a w (l.take n) 0) : (Code.region id l.toArray true).wp P Q a w := by
  refine wp_soft_tail Rel n tab hm hform htrans hdraw hlen hnd hsz hmono (fun a' W hS => ?_) hstep
  have h1 := hend W (tab.map fun p => a'.tmps.getD p.1 undef) (toldAll_of (f := fun d => a'.tmps.getD d undef) tab fun k d R hk => hS.told k d R hk (by
    have hk' : k < n := by have := (List.getElem?_eq_some_iff.1 hk).1; omega
    simp [doneTo, hk', List.getElem?_append])) hS.rel
  rw [zip_told (fun d => a'.tmps.getD d undef), ← putAll_of a'.tmps _ a.tmps hS.size hS.out, ← hS.defers] at h1
  exact h1

end Go.Proofs.Ytnocdfmmhnnbeaa

namespace Go.Proofs.Ytnocdfmmhnnbeaa
open Go.ChangeShapes Go.WideShapes Go.ChangeAt Go.RowKit Go.Sort
set_option linter.unusedVariables false
set_option linter.unusedSimpArgs false
attribute [local go_sem] World.cell?_alloc_some

/-- what the slots hold -/
def thaTab (b o n cap j : Nat) (B : Option Addr) (cap2 : Nat) (x : It) (ra rb : Int) (rr : Bool) (s0 : Nat) : SoftTab := [(12, fun z9 W => z9 = .slice (some ⟨b, o, none⟩) n cap),
  (13, fun z9 W => z9 = Vi (j : Int)),
  (14, fun z9 W => z9 = .slice (some ⟨b, o, none⟩) j cap),
  (15, fun z9 W => z9 = .slice B j cap2),
  (16, fun z9 W => z9 = .slice (some ⟨b, o, none⟩) n cap),
  (17, fun z9 W => z9 = Vi (j : Int)),
  (18, fun z9 W => z9 = .pointer (some ⟨b, o + j * 7, none⟩)),
  (19, fun z9 W => z9 = itv x),
  (20, fun z9 W => z9 = hgv ⟨(ra, rb), rr⟩),
  (5, fun z9 W => ∃ q, z9 = .pointer (some ⟨q, 0, none⟩) ∧ s0 ≤ q ∧ HgIs W q ⟨(0, 0), false⟩)]
theorem thaTab_mono (b o n cap j : Nat) (B : Option Addr) (cap2 : Nat) (x : It) (ra rb : Int) (rr : Bool) (s0 : Nat) (Rel : World → World → Prop) (hR : ∀ W W', Rel W W' → Ext W W') : SoftMonoR Rel (thaTab b o n cap j B cap2 x ra rb rr s0) := by
  intro p hp v W W' h hx
  simp only [thaTab, List.mem_cons, List.not_mem_nil, or_false] at hp
  rcases hp with rfl | rfl | rfl | rfl | rfl | rfl | rfl | rfl | rfl | rfl
  all_goals first
    | exact h
    | (obtain ⟨q, h1, h2, h3⟩ := h
       exact ⟨q, h1, h2, h3.ext (hR _ _ hx)⟩)

theorem hangs_take {l : List It} {j : Nat} {x : It} (h : knownI l = true) (hp : l[j]? = some x) : hangsP (l.take (j + 1)) = hangsP (l.take j) ++ [fixV x (plcV (l.take j) (hangsP (l.take j)) x)] := by
  rw [take_get hp, hangs_snoc, plc_is (known_take h j) (known_at h hp).1]
theorem HgS.newAt {W : World} {s : Nat} (x : Hg) (h : W.heap.size = s) : HgS (W.alloc (.cells #[.int .u32 x.on.1, .int .u32 x.on.2, .bool x.right] 37)) (some ⟨s, 0, none⟩) [x] := h ▸ HgS.new W x
def RetH (w : World) (l : List Hg) (e : Ending) (w' : World) : Prop := ∃ v, e = .returned v ∧ OwnH w w' v l ∧ Ext w w'

set_option maxRecDepth 100000 in
set_option maxHeartbeats 8000000 in
theorem hangs_ref (A : Option Addr) (n cap : Nat) (l : List It) (w : World) (hv : ItS w A l) (hk : knownI l = true) (hn : l.length = n) (hcp : n ≤ cap) (hb : n ≤ 1000000000000) :
    Calls Try.prog 21 #[.slice A n cap] w (RetH w (hangsP l)) := by
  replace hn := Lib.hid hn
  replace hv := Lib.hid hv
  replace hk := Lib.hid hk
  go_enter Try.func21, Try.ntmps21
  go_wp2
  go_loopw [3, 4] (fun v i W => ∃ (j : Nat), j ≤ n ∧ i = Vi j ∧ Hid (OwnH w W v (hangsP (l.take j))) ∧ Ext w W) (fun _ i _ => n - (intOf i).toNat)
  case atStart => exact ⟨0, Nat.zero_le _, rfl, Lib.hid (OwnH.nil _ _), Ext.refl _⟩
  case round =>
    obtain ⟨j, hj, rfl, ho, hx⟩ := hrel
    by_cases hlt : j < n
    · obtain ⟨b, o, x, hA, hp, d⟩ := (hv.out.ext hx).at (k := j) (by rw [hn.out]; exact hlt)
      obtain ⟨c0, c1, c2, c3, c4, c5, c6⟩ := d
      have hi1 : (0 : Int) ≤ (j : Int) := by omega
      have hi2 : (j : Int) < (n : Int) := by omega
      have htl : (l.take j).length = j := by rw [List.length_take, hn.out]; omega
      have hnx := Lib.hid (hangs_take hk.out hp)
      have hhl := Lib.hid (show (hangsP (l.take j)).length = j by rw [hangs_len, htl])
      obtain ⟨B, cap2, rfl, _, hH⟩ := ho.out.open
      have hcall := Lib.hid (fun (W : World) (hW : Ext wr W) => place_ref A B j cap cap2 (l.take j) (hangsP (l.take j)) x W ((hv.out.ext (hx.trans hW)).take j) (hH.ext hW) htl hhl.out (by omega))
      have hup := fun W : World => uptoI A n cap j (by omega) (j : Int) rfl W
      subst hA
      clear hp htl hH
      rw [hhl.out] at ho ⊢
      generalize plcV (l.take j) (hangsP (l.take j)) x = R at *
      generalize hangsP (l.take j) = hs at *
      obtain ⟨⟨ra, rb⟩, rr⟩ := R
      obtain ⟨s0, hs0⟩ : ∃ s0, wr.heap.size = s0 := ⟨_, rfl⟩
      replace hs0 := Lib.hid hs0
      go_wp2_with fail
      refine wp_soft_frame Ext 10 (thaTab b o n cap j B cap2 x ra rb rr s0) (by kernel_rfl) (by kernel_rfl) (fun _ _ _ => Ext.trans) ((Ext.refl _).drew) rfl (by show List.Nodup [12, 13, 14, 15, 16, 17, 18, 19, 20, 5]; decide) (by show ∀ d ∈ [12, 13, 14, 15, 16, 17, 18, 19, 20, 5], d < 39; decide) (thaTab_mono b o n cap j B cap2 x ra rb rr s0 Ext (fun _ _ h => h)) ?_ ⟨?_, ?_, ?_, ?_, ?_, ?_, ?_, ?_, ?_, ?_, trivial⟩
      · intro W vs hT hR
        match vs, hT with
        | [v0, v1, v2, v3, v4, v5, v6, v7, v8, v9], ⟨e0, e1, e2, e3, e4, e5, e6, e7, e8, e9, _⟩ =>
          simp only [thaTab, List.map_cons, List.map_nil, List.zip_cons_cons, List.zip_nil_left, putAll, List.setIfInBounds_toArray, List.set_cons_zero, List.set_cons_succ, List.drop_succ_cons, List.drop_zero]
          simp only at e0 e1 e2 e3 e4 e5 e6 e7 e8
          obtain ⟨q9, e9, h9⟩ := e9
          rw [e0, e1, e2, e3, e4, e5, e6, e7, e8, e9]
          clear e0 e1 e2 e3 e4 e5 e6 e7 e8 e9 v0 v1 v2 v3 v4 v5 v6 v7 v8 v9
          obtain ⟨hq, hb9⟩ := h9
          have hqs : wr.heap.size ≤ q9 := hs0.out ▸ hq
          have f0 := hb9.thaw 0
          have f1 := hb9.thaw 1
          have f2 := hb9.thaw 2
          obtain ⟨k0, k1, k2⟩ := hb9.cells
          have hbS := Lib.hid (hb9.store ra rb rr)
          have xe := Lib.hid (((hR.setCell hqs (Vu ra) (p := ⟨q9, 0, none⟩)).setCell hqs (Vu rb) (p := ⟨q9, 1, none⟩)).setCell hqs (.bool rr) (p := ⟨q9, 2, none⟩))
          obtain ⟨z0, z1, z2⟩ := hbS.out.cells
          have y2 := xe.out.keep c2
          clear c0 c1 c2 c3 c4 c5 c6 hcall hT hb9
          by_cases hL : x.lc = 0
          · have hd : (x.lc == 0) = true := by simpa using hL
            cases rr with
            | true =>
              replace hnx := Lib.hid (show hangsP (l.take (j + 1)) = hs ++ [⟨(0, 0), true⟩] by rw [hnx.out]; unfold fixV; rw [if_pos ⟨hL, rfl⟩])
              clear hL
              go_upto_if 31 with fail
              generalize ((W.setCell ⟨q9, 0, none⟩ (Vu ra)).setCell ⟨q9, 1, none⟩ (Vu rb)).setCell ⟨q9, 2, none⟩ (.bool true) = S at *
              have g0 := hbS.out.thaw 0
              have g1 := hbS.out.thaw 1
              have hb2 := Lib.hid (hbS.out.on 0 0)
              replace xe := Lib.hid ((xe.out.setCell hqs (Vu 0) (p := ⟨q9, 0, none⟩)).setCell hqs (Vu 0) (p := ⟨q9, 1, none⟩))
              obtain ⟨u0, u1, u2⟩ := hb2.out.cells
              clear y2
              go_wp2_with (at_builtin; go_loud (refine wpList_append_H (w0 := w) rfl (.tmp 34) (.tmp 36) rfl _ hs rfl ((ho.out.ext xe.out).ext ((Ext.refl _).alloc _)) ((hx.trans xe.out).alloc _) _ 1 1 [⟨(0, 0), true⟩] rfl rfl (HgS.newAt ⟨(0, 0), true⟩ (by simp)) (by simp only [List.length_cons, List.length_nil, hhl.out]; omega) ?_; intro v3 w3 o3 x3 _ _))
              go_roundw
              case rel => exact ⟨j + 1, by omega, by go_num, Lib.hid (hnx.out ▸ o3), x3⟩
              case measure => simp [intOf]; omega
            | false =>
              replace hnx := Lib.hid (show hangsP (l.take (j + 1)) = hs ++ [⟨(ra, rb), false⟩] by rw [hnx.out]; unfold fixV; rw [if_neg (fun e => by cases e.2)])
              clear hL
              go_upto_if 31 with fail
              generalize ((W.setCell ⟨q9, 0, none⟩ (Vu ra)).setCell ⟨q9, 1, none⟩ (Vu rb)).setCell ⟨q9, 2, none⟩ (.bool false) = S at *
              go_wp2_with (at_builtin; go_loud (refine wpList_append_H (w0 := w) rfl (.tmp 34) (.tmp 36) rfl _ hs rfl ((ho.out.ext xe.out).ext ((Ext.refl _).alloc _)) ((hx.trans xe.out).alloc _) _ 1 1 [⟨(ra, rb), false⟩] rfl rfl (HgS.newAt ⟨(ra, rb), false⟩ (by simp)) (by simp only [List.length_cons, List.length_nil, hhl.out]; omega) ?_; intro v3 w3 o3 x3 _ _))
              go_roundw
              case rel => exact ⟨j + 1, by omega, by go_num, Lib.hid (hnx.out ▸ o3), x3⟩
              case measure => simp [intOf]; omega
          · have hd : (x.lc == 0) = false := by simpa using hL
            replace hnx := Lib.hid (show hangsP (l.take (j + 1)) = hs ++ [⟨(ra, rb), rr⟩] by rw [hnx.out]; unfold fixV; rw [if_neg (fun e => hL e.1)])
            clear hL
            go_upto_if 31 with fail
            generalize ((W.setCell ⟨q9, 0, none⟩ (Vu ra)).setCell ⟨q9, 1, none⟩ (Vu rb)).setCell ⟨q9, 2, none⟩ (.bool rr) = S at *
            go_wp2_with (at_builtin; go_loud (refine wpList_append_H (w0 := w) rfl (.tmp 34) (.tmp 36) rfl _ hs rfl ((ho.out.ext xe.out).ext ((Ext.refl _).alloc _)) ((hx.trans xe.out).alloc _) _ 1 1 [⟨(ra, rb), rr⟩] rfl rfl (HgS.newAt ⟨(ra, rb), rr⟩ (by simp)) (by simp only [List.length_cons, List.length_nil, hhl.out]; omega) ?_; intro v3 w3 o3 x3 _ _))
            go_roundw
            case rel => exact ⟨j + 1, by omega, by go_num, Lib.hid (hnx.out ▸ o3), x3⟩
            case measure => simp [intOf]; omega
      · refine softR_val 12 _ (by kernel_rfl) rfl rfl ?_
        intro a W hx hout hdep
        have ev0 : a.tmps[0]?.getD undef = .slice (some ⟨b, o, none⟩) n cap := by rw [← Array.getD_eq_getD_getElem?]; exact hout 0 (by show 0 ∉ [12, 13, 14, 15, 16, 17, 18, 19, 20, 5]; decide)
        refine ⟨rfl, .slice (some ⟨b, o, none⟩) n cap, W, ?_, rfl, Ext.refl _⟩
        simp [ev0, execOp, go_sem]
      · refine softR_val 13 _ (by kernel_rfl) rfl rfl ?_
        intro a W hx hout hdep
        have ev4 : a.tmps[4]?.getD undef = Vi (j : Int) := by rw [← Array.getD_eq_getD_getElem?]; exact hout 4 (by show 4 ∉ [12, 13, 14, 15, 16, 17, 18, 19, 20, 5]; decide)
        refine ⟨rfl, Vi (j : Int), W, ?_, rfl, Ext.refl _⟩
        simp [ev4, execOp, go_sem]
      · refine softR_val 14 _ (by kernel_rfl) rfl rfl ?_
        intro a W hx hout hdep
        have ev12 : a.tmps[12]?.getD undef = .slice (some ⟨b, o, none⟩) n cap := by rw [← Array.getD_eq_getD_getElem?]; exact (hdep ⟨0, .data⟩ (by simp) rfl 12 _ rfl).1
        have ev13 : a.tmps[13]?.getD undef = Vi (j : Int) := by rw [← Array.getD_eq_getD_getElem?]; exact (hdep ⟨1, .data⟩ (by simp) rfl 13 _ rfl).1
        refine ⟨rfl, .slice (some ⟨b, o, none⟩) j cap, W, ?_, rfl, Ext.refl _⟩
        simp [ev12, ev13, hup, execOp, go_sem]
      · refine softR_val 15 _ (by kernel_rfl) rfl rfl ?_
        intro a W hx hout hdep
        have ev3 : a.tmps[3]?.getD undef = .slice B j cap2 := by rw [← Array.getD_eq_getD_getElem?]; exact hout 3 (by show 3 ∉ [12, 13, 14, 15, 16, 17, 18, 19, 20, 5]; decide)
        refine ⟨rfl, .slice B j cap2, W, ?_, rfl, Ext.refl _⟩
        simp [ev3, execOp, go_sem]
      · refine softR_val 16 _ (by kernel_rfl) rfl rfl ?_
        intro a W hx hout hdep
        have ev0 : a.tmps[0]?.getD undef = .slice (some ⟨b, o, none⟩) n cap := by rw [← Array.getD_eq_getD_getElem?]; exact hout 0 (by show 0 ∉ [12, 13, 14, 15, 16, 17, 18, 19, 20, 5]; decide)
        refine ⟨rfl, .slice (some ⟨b, o, none⟩) n cap, W, ?_, rfl, Ext.refl _⟩
        simp [ev0, execOp, go_sem]
      · refine softR_val 17 _ (by kernel_rfl) rfl rfl ?_
        intro a W hx hout hdep
        have ev4 : a.tmps[4]?.getD undef = Vi (j : Int) := by rw [← Array.getD_eq_getD_getElem?]; exact hout 4 (by show 4 ∉ [12, 13, 14, 15, 16, 17, 18, 19, 20, 5]; decide)
        refine ⟨rfl, Vi (j : Int), W, ?_, rfl, Ext.refl _⟩
        simp [ev4, execOp, go_sem]
      · refine softR_val 18 _ (by kernel_rfl) rfl rfl ?_
        intro a W hx hout hdep
        have ev16 : a.tmps[16]?.getD undef = .slice (some ⟨b, o, none⟩) n cap := by rw [← Array.getD_eq_getD_getElem?]; exact (hdep ⟨4, .data⟩ (by simp) rfl 16 _ rfl).1
        have ev17 : a.tmps[17]?.getD undef = Vi (j : Int) := by rw [← Array.getD_eq_getD_getElem?]; exact (hdep ⟨5, .data⟩ (by simp) rfl 17 _ rfl).1
        refine ⟨rfl, .pointer (some ⟨b, o + j * 7, none⟩), W, ?_, rfl, Ext.refl _⟩
        simp [ev16, ev17, hi1, hi2, execOp, go_sem]
      · refine softR_val 19 _ (by kernel_rfl) rfl rfl ?_
        intro a W hx hout hdep
        have ev18 : a.tmps[18]?.getD undef = .pointer (some ⟨b, o + j * 7, none⟩) := by rw [← Array.getD_eq_getD_getElem?]; exact (hdep ⟨6, .data⟩ (by simp) rfl 18 _ rfl).1
        have q0 := hx.keep c0
        have q1 := hx.keep c1
        have q2 := hx.keep c2
        have q3 := hx.keep c3
        have q4 := hx.keep c4
        have q5 := hx.keep c5
        have q6 := hx.keep c6
        refine ⟨rfl, itv x, W, ?_, rfl, Ext.refl _⟩
        simp [ev18, q0, q1, q2, q3, q4, q5, q6, execOp, go_sem]
      · refine softR_call 20 _ (by kernel_rfl) rfl rfl ?_
        intro a W hx hout hdep
        have ev14 : a.tmps[14]?.getD undef = .slice (some ⟨b, o, none⟩) j cap := by rw [← Array.getD_eq_getD_getElem?]; exact (hdep ⟨2, .data⟩ (by simp) rfl 14 _ rfl).1
        have ev15 : a.tmps[15]?.getD undef = .slice B j cap2 := by rw [← Array.getD_eq_getD_getElem?]; exact (hdep ⟨3, .data⟩ (by simp) rfl 15 _ rfl).1
        have ev19 : a.tmps[19]?.getD undef = itv x := by rw [← Array.getD_eq_getD_getElem?]; exact (hdep ⟨7, .data⟩ (by simp) rfl 19 _ rfl).1
        refine ⟨rfl, 27, #[.slice (some ⟨b, o, none⟩) j cap, .slice B j cap2, itv x], ?_, ?_⟩
        · simp [ev14, ev15, ev19, execOp, go_sem]
        · exact (hcall.out W hx).mono (by rintro e W1 ⟨rfl, h⟩; exact ⟨_, rfl, rfl, h⟩)
      · refine softR_val 5 _ (by kernel_rfl) rfl rfl ?_
        intro a W hx hout hdep
        refine ⟨rfl, .pointer (some ⟨W.heap.size, 0, none⟩), _, ?_, ⟨_, rfl, hs0.out ▸ hx.size, HgIs.new W 0 0 false⟩, (Ext.refl W).alloc _⟩
        simp [execOp, go_sem]
    · have hz := Lib.hid (show hangsP (l.take j) = hangsP l by rw [List.take_of_length_le (by rw [hn.out]; omega)])
      go_wp2
      go_ret
      exact ⟨_, rfl, hz.out ▸ ho.out, hx⟩

end Go.Proofs.Ytnocdfmmhnnbeaa

namespace Go.Proofs.Ytnocdfmmhnnbeaa
open Go.ChangeShapes Go.WideShapes Go.ChangeAt Go.RowKit Go.Sort
set_option linter.unusedVariables false
set_option linter.unusedSimpArgs false
attribute [local go_sem] World.cell?_alloc_some

theorem knownG_drop {l : List It} {j : Nat} {x : It} (hp : l[j]? = some x) : knownG (l.take j) (l.drop j) = (knownX (l.take j) x && knownG (l.take (j + 1)) (l.drop (j + 1))) := by
  rw [drop_get hp, knownG, take_get hp]
theorem fndV_yes {l : List It} {a : I2} (h : hasI l a = true) : decide (0 ≤ fndV l a) = true ∧ decide (fndV l a < 0) = false := by
  have : ¬ fndV l a < 0 := fun e => by rw [fndV_neg.1 e] at h; cases h
  exact ⟨decide_eq_true (by omega), decide_eq_false this⟩
theorem fndV_no {l : List It} {a : I2} (h : hasI l a = false) : decide (0 ≤ fndV l a) = false ∧ decide (fndV l a < 0) = true := by
  have := fndV_neg.2 h
  exact ⟨decide_eq_false (by omega), decide_eq_true this⟩

set_option maxRecDepth 100000 in
set_option maxHeartbeats 16000000 in
theorem known_ref (A : Option Addr) (n cap : Nat) (l : List It) (w : World) (hv : ItS w A l) (hn : l.length = n) (hcp : n ≤ cap) (hb : n ≤ 1000000000000000) :
    Calls Try.prog 7 #[.slice A n cap] w fun e w' => e = .returned (.bool (knownI l)) ∧ Ext w w' := by
  obtain ⟨R, hR⟩ : ∃ R : Bool, knownI l = R := ⟨_, rfl⟩
  rw [hR]
  have hR0 := Lib.hid (show knownG (l.take 0) (l.drop 0) = R from hR)
  clear hR
  replace hn := Lib.hid hn
  replace hv := Lib.hid hv
  go_enter Try.func7, Try.ntmps7
  go_wp2
  go_loopw [3] (fun i W => ∃ (j : Nat), j ≤ n ∧ i = Vi j ∧ Hid (knownG (l.take j) (l.drop j) = R) ∧ Ext w W) (fun i _ => n - (intOf i).toNat)
  case atStart => exact ⟨0, Nat.zero_le _, rfl, hR0, Ext.refl _⟩
  case round =>
    clear hR0
    obtain ⟨j, hj, rfl, hrel, hx⟩ := hrel
    by_cases hlt : j < n
    · obtain ⟨b, o, x, hA, hp, d⟩ := (hv.out.ext hx).at (k := j) (by rw [hn.out]; exact hlt)
      obtain ⟨c0, c1, c2, c3, c4, c5, c6⟩ := d
      have hi1 : (0 : Int) ≤ (j : Int) := by omega
      have hi2 : (j : Int) < (n : Int) := by omega
      have hup := fun W : World => uptoI A n cap j (by omega) (j : Int) rfl W
      have htl : (l.take j).length = j := by rw [List.length_take, hn.out]; omega
      have hst := Lib.hid (knownG_drop hp)
      have hcall := Lib.hid (fun (a k : Int) (W : World) (hW : Ext wr W) => find_ref A j cap (l.take j) a k W ((hv.out.ext (hx.trans hW)).take j) htl (by omega))
      subst hA
      clear hp htl
      have hkx : knownX (l.take j) x = (decide (x.c ≠ 0) && !hasI (l.take j) (x.c, x.k) && (decide (x.lc = 0) || hasI (l.take j) (x.lc, x.lk)) && (decide (x.rc = 0) || hasI (l.take j) (x.rc, x.rk))) := rfl
      generalize knownG (l.take j) (l.drop j) = kj at *
      generalize knownX (l.take j) x = kx at *
      by_cases e0 : x.c = 0
      · have g0 : (x.c == 0) = true := by simpa using e0
        replace hkx := Lib.hid (show kx = false by rw [hkx]; simp [e0])
        replace hst := Lib.hid (show kj = false by rw [hst.out, hkx.out]; simp)
        clear hkx e0
        go_wp2_with fail
        have q0 : (wr.alloc (.cells #[.int .u32 x.c, .int .u32 x.k, .int .u32 x.lc, .int .u32 x.lk, .int .u32 x.rc, .int .u32 x.rk, .int .i32 x.ch] 27)).cell? ⟨wr.heap.size, 0, none⟩ = some (Vu x.c) := by simp [go_sem]
        have q1 : (wr.alloc (.cells #[.int .u32 x.c, .int .u32 x.k, .int .u32 x.lc, .int .u32 x.lk, .int .u32 x.rc, .int .u32 x.rk, .int .i32 x.ch] 27)).cell? ⟨wr.heap.size, 1, none⟩ = some (Vu x.k) := by simp [go_sem]
        have q2 : (wr.alloc (.cells #[.int .u32 x.c, .int .u32 x.k, .int .u32 x.lc, .int .u32 x.lk, .int .u32 x.rc, .int .u32 x.rk, .int .i32 x.ch] 27)).cell? ⟨wr.heap.size, 2, none⟩ = some (Vu x.lc) := by simp [go_sem]
        have q3 : (wr.alloc (.cells #[.int .u32 x.c, .int .u32 x.k, .int .u32 x.lc, .int .u32 x.lk, .int .u32 x.rc, .int .u32 x.rk, .int .i32 x.ch] 27)).cell? ⟨wr.heap.size, 3, none⟩ = some (Vu x.lk) := by simp [go_sem]
        have q4 : (wr.alloc (.cells #[.int .u32 x.c, .int .u32 x.k, .int .u32 x.lc, .int .u32 x.lk, .int .u32 x.rc, .int .u32 x.rk, .int .i32 x.ch] 27)).cell? ⟨wr.heap.size, 4, none⟩ = some (Vu x.rc) := by simp [go_sem]
        have q5 : (wr.alloc (.cells #[.int .u32 x.c, .int .u32 x.k, .int .u32 x.lc, .int .u32 x.lk, .int .u32 x.rc, .int .u32 x.rk, .int .i32 x.ch] 27)).cell? ⟨wr.heap.size, 5, none⟩ = some (Vu x.rk) := by simp [go_sem]
        have x1 : Ext wr (wr.alloc (.cells #[.int .u32 x.c, .int .u32 x.k, .int .u32 x.lc, .int .u32 x.lk, .int .u32 x.rc, .int .u32 x.rk, .int .i32 x.ch] 27)) := (Ext.refl _).alloc _
        generalize wr.alloc (.cells #[.int .u32 x.c, .int .u32 x.k, .int .u32 x.lc, .int .u32 x.lk, .int .u32 x.rc, .int .u32 x.rk, .int .i32 x.ch] 27) = W at *
        generalize wr.heap.size = py at *
        replace q0 := cell_regrown q0
        replace q1 := cell_regrown q1
        replace q2 := cell_regrown q2
        replace q3 := cell_regrown q3
        replace q4 := cell_regrown q4
        replace q5 := cell_regrown q5
        refine wp_region_quiet_below (by kernel_rfl) (by kernel_rfl) ?_
        repeat go_big_quiet_step ((with_reducible exact Calls.in_regrown (hcall.out _ _ _ (x1.trans (Ext.regrown _ _ _)))))
        refine wpQuiet_nil ?_
        intro _ hw'
        obtain ⟨⟨dq, osq⟩, hw''⟩ := hw'
        subst hw''
        go_wp2
        go_ret
        exact ⟨ret_bool (by rw [← hrel.out, hst.out]), (hx.trans x1).trans (Ext.regrown _ _ _)⟩
      have g0 : (x.c == 0) = false := by simpa using e0
      cases h1 : hasI (l.take j) (x.c, x.k) with
      | true =>
        obtain ⟨g1, _⟩ := fndV_yes h1
        replace hkx := Lib.hid (show kx = false by rw [hkx]; simp [h1])
        replace hst := Lib.hid (show kj = false by rw [hst.out, hkx.out]; simp)
        clear hkx e0
        go_wp2_with fail
        have q0 : (wr.alloc (.cells #[.int .u32 x.c, .int .u32 x.k, .int .u32 x.lc, .int .u32 x.lk, .int .u32 x.rc, .int .u32 x.rk, .int .i32 x.ch] 27)).cell? ⟨wr.heap.size, 0, none⟩ = some (Vu x.c) := by simp [go_sem]
        have q1 : (wr.alloc (.cells #[.int .u32 x.c, .int .u32 x.k, .int .u32 x.lc, .int .u32 x.lk, .int .u32 x.rc, .int .u32 x.rk, .int .i32 x.ch] 27)).cell? ⟨wr.heap.size, 1, none⟩ = some (Vu x.k) := by simp [go_sem]
        have q2 : (wr.alloc (.cells #[.int .u32 x.c, .int .u32 x.k, .int .u32 x.lc, .int .u32 x.lk, .int .u32 x.rc, .int .u32 x.rk, .int .i32 x.ch] 27)).cell? ⟨wr.heap.size, 2, none⟩ = some (Vu x.lc) := by simp [go_sem]
        have q3 : (wr.alloc (.cells #[.int .u32 x.c, .int .u32 x.k, .int .u32 x.lc, .int .u32 x.lk, .int .u32 x.rc, .int .u32 x.rk, .int .i32 x.ch] 27)).cell? ⟨wr.heap.size, 3, none⟩ = some (Vu x.lk) := by simp [go_sem]
        have q4 : (wr.alloc (.cells #[.int .u32 x.c, .int .u32 x.k, .int .u32 x.lc, .int .u32 x.lk, .int .u32 x.rc, .int .u32 x.rk, .int .i32 x.ch] 27)).cell? ⟨wr.heap.size, 4, none⟩ = some (Vu x.rc) := by simp [go_sem]
        have q5 : (wr.alloc (.cells #[.int .u32 x.c, .int .u32 x.k, .int .u32 x.lc, .int .u32 x.lk, .int .u32 x.rc, .int .u32 x.rk, .int .i32 x.ch] 27)).cell? ⟨wr.heap.size, 5, none⟩ = some (Vu x.rk) := by simp [go_sem]
        have x1 : Ext wr (wr.alloc (.cells #[.int .u32 x.c, .int .u32 x.k, .int .u32 x.lc, .int .u32 x.lk, .int .u32 x.rc, .int .u32 x.rk, .int .i32 x.ch] 27)) := (Ext.refl _).alloc _
        generalize wr.alloc (.cells #[.int .u32 x.c, .int .u32 x.k, .int .u32 x.lc, .int .u32 x.lk, .int .u32 x.rc, .int .u32 x.rk, .int .i32 x.ch] 27) = W at *
        generalize wr.heap.size = py at *
        replace q0 := cell_regrown q0
        replace q1 := cell_regrown q1
        replace q2 := cell_regrown q2
        replace q3 := cell_regrown q3
        replace q4 := cell_regrown q4
        replace q5 := cell_regrown q5
        refine wp_region_quiet_below (by kernel_rfl) (by kernel_rfl) ?_
        repeat go_big_quiet_step ((with_reducible exact Calls.in_regrown (hcall.out _ _ _ (x1.trans (Ext.regrown _ _ _)))))
        refine wpQuiet_nil ?_
        intro _ hw'
        obtain ⟨⟨dq, osq⟩, hw''⟩ := hw'
        subst hw''
        go_wp2
        go_ret
        exact ⟨ret_bool (by rw [← hrel.out, hst.out]), (hx.trans x1).trans (Ext.regrown _ _ _)⟩
      | false =>
        obtain ⟨g1, _⟩ := fndV_no h1
        by_cases e2 : x.lc = 0
        · have g2 : (x.lc != 0) = false := by simpa using e2
          by_cases e3 : x.rc = 0
          · have g3 : (x.rc != 0) = false := by simpa using e3
            replace hkx := Lib.hid (show kx = true by rw [hkx]; simp [e0, h1, e2, e3])
            replace hst := Lib.hid (show kj = knownG (l.take (j + 1)) (l.drop (j + 1)) by rw [hst.out, hkx.out]; simp)
            clear hkx e0 e2 e3
            go_wp2_with fail
            have q0 : (wr.alloc (.cells #[.int .u32 x.c, .int .u32 x.k, .int .u32 x.lc, .int .u32 x.lk, .int .u32 x.rc, .int .u32 x.rk, .int .i32 x.ch] 27)).cell? ⟨wr.heap.size, 0, none⟩ = some (Vu x.c) := by simp [go_sem]
            have q1 : (wr.alloc (.cells #[.int .u32 x.c, .int .u32 x.k, .int .u32 x.lc, .int .u32 x.lk, .int .u32 x.rc, .int .u32 x.rk, .int .i32 x.ch] 27)).cell? ⟨wr.heap.size, 1, none⟩ = some (Vu x.k) := by simp [go_sem]
            have q2 : (wr.alloc (.cells #[.int .u32 x.c, .int .u32 x.k, .int .u32 x.lc, .int .u32 x.lk, .int .u32 x.rc, .int .u32 x.rk, .int .i32 x.ch] 27)).cell? ⟨wr.heap.size, 2, none⟩ = some (Vu x.lc) := by simp [go_sem]
            have q3 : (wr.alloc (.cells #[.int .u32 x.c, .int .u32 x.k, .int .u32 x.lc, .int .u32 x.lk, .int .u32 x.rc, .int .u32 x.rk, .int .i32 x.ch] 27)).cell? ⟨wr.heap.size, 3, none⟩ = some (Vu x.lk) := by simp [go_sem]
            have q4 : (wr.alloc (.cells #[.int .u32 x.c, .int .u32 x.k, .int .u32 x.lc, .int .u32 x.lk, .int .u32 x.rc, .int .u32 x.rk, .int .i32 x.ch] 27)).cell? ⟨wr.heap.size, 4, none⟩ = some (Vu x.rc) := by simp [go_sem]
            have q5 : (wr.alloc (.cells #[.int .u32 x.c, .int .u32 x.k, .int .u32 x.lc, .int .u32 x.lk, .int .u32 x.rc, .int .u32 x.rk, .int .i32 x.ch] 27)).cell? ⟨wr.heap.size, 5, none⟩ = some (Vu x.rk) := by simp [go_sem]
            have x1 : Ext wr (wr.alloc (.cells #[.int .u32 x.c, .int .u32 x.k, .int .u32 x.lc, .int .u32 x.lk, .int .u32 x.rc, .int .u32 x.rk, .int .i32 x.ch] 27)) := (Ext.refl _).alloc _
            generalize wr.alloc (.cells #[.int .u32 x.c, .int .u32 x.k, .int .u32 x.lc, .int .u32 x.lk, .int .u32 x.rc, .int .u32 x.rk, .int .i32 x.ch] 27) = W at *
            generalize wr.heap.size = py at *
            replace q0 := cell_regrown q0
            replace q1 := cell_regrown q1
            replace q2 := cell_regrown q2
            replace q3 := cell_regrown q3
            replace q4 := cell_regrown q4
            replace q5 := cell_regrown q5
            refine wp_region_quiet_below (by kernel_rfl) (by kernel_rfl) ?_
            repeat go_big_quiet_step ((with_reducible exact Calls.in_regrown (hcall.out _ _ _ (x1.trans (Ext.regrown _ _ _)))))
            refine wpQuiet_nil ?_
            intro _ hw'
            obtain ⟨⟨dq, osq⟩, hw''⟩ := hw'
            subst hw''
            go_wp2
            go_roundw
            case rel => exact ⟨j + 1, by omega, by go_num, Lib.hid (by rw [← hst.out, hrel.out]), (hx.trans x1).trans (Ext.regrown _ _ _)⟩
            case measure => simp [intOf]; omega
          have g3 : (x.rc != 0) = true := by simpa using e3
          cases h3 : hasI (l.take j) (x.rc, x.rk) with
          | true =>
            obtain ⟨_, g4⟩ := fndV_yes h3
            replace hkx := Lib.hid (show kx = true by rw [hkx]; simp [e0, h1, e2, h3])
            replace hst := Lib.hid (show kj = knownG (l.take (j + 1)) (l.drop (j + 1)) by rw [hst.out, hkx.out]; simp)
            clear hkx e0 e2 e3
            go_wp2_with fail
            have q0 : (wr.alloc (.cells #[.int .u32 x.c, .int .u32 x.k, .int .u32 x.lc, .int .u32 x.lk, .int .u32 x.rc, .int .u32 x.rk, .int .i32 x.ch] 27)).cell? ⟨wr.heap.size, 0, none⟩ = some (Vu x.c) := by simp [go_sem]
            have q1 : (wr.alloc (.cells #[.int .u32 x.c, .int .u32 x.k, .int .u32 x.lc, .int .u32 x.lk, .int .u32 x.rc, .int .u32 x.rk, .int .i32 x.ch] 27)).cell? ⟨wr.heap.size, 1, none⟩ = some (Vu x.k) := by simp [go_sem]
            have q2 : (wr.alloc (.cells #[.int .u32 x.c, .int .u32 x.k, .int .u32 x.lc, .int .u32 x.lk, .int .u32 x.rc, .int .u32 x.rk, .int .i32 x.ch] 27)).cell? ⟨wr.heap.size, 2, none⟩ = some (Vu x.lc) := by simp [go_sem]
            have q3 : (wr.alloc (.cells #[.int .u32 x.c, .int .u32 x.k, .int .u32 x.lc, .int .u32 x.lk, .int .u32 x.rc, .int .u32 x.rk, .int .i32 x.ch] 27)).cell? ⟨wr.heap.size, 3, none⟩ = some (Vu x.lk) := by simp [go_sem]
            have q4 : (wr.alloc (.cells #[.int .u32 x.c, .int .u32 x.k, .int .u32 x.lc, .int .u32 x.lk, .int .u32 x.rc, .int .u32 x.rk, .int .i32 x.ch] 27)).cell? ⟨wr.heap.size, 4, none⟩ = some (Vu x.rc) := by simp [go_sem]
            have q5 : (wr.alloc (.cells #[.int .u32 x.c, .int .u32 x.k, .int .u32 x.lc, .int .u32 x.lk, .int .u32 x.rc, .int .u32 x.rk, .int .i32 x.ch] 27)).cell? ⟨wr.heap.size, 5, none⟩ = some (Vu x.rk) := by simp [go_sem]
            have x1 : Ext wr (wr.alloc (.cells #[.int .u32 x.c, .int .u32 x.k, .int .u32 x.lc, .int .u32 x.lk, .int .u32 x.rc, .int .u32 x.rk, .int .i32 x.ch] 27)) := (Ext.refl _).alloc _
            generalize wr.alloc (.cells #[.int .u32 x.c, .int .u32 x.k, .int .u32 x.lc, .int .u32 x.lk, .int .u32 x.rc, .int .u32 x.rk, .int .i32 x.ch] 27) = W at *
            generalize wr.heap.size = py at *
            replace q0 := cell_regrown q0
            replace q1 := cell_regrown q1
            replace q2 := cell_regrown q2
            replace q3 := cell_regrown q3
            replace q4 := cell_regrown q4
            replace q5 := cell_regrown q5
            refine wp_region_quiet_below (by kernel_rfl) (by kernel_rfl) ?_
            repeat go_big_quiet_step ((with_reducible exact Calls.in_regrown (hcall.out _ _ _ (x1.trans (Ext.regrown _ _ _)))))
            refine wpQuiet_nil ?_
            intro _ hw'
            obtain ⟨⟨dq, osq⟩, hw''⟩ := hw'
            subst hw''
            go_wp2
            go_roundw
            case rel => exact ⟨j + 1, by omega, by go_num, Lib.hid (by rw [← hst.out, hrel.out]), (hx.trans x1).trans (Ext.regrown _ _ _)⟩
            case measure => simp [intOf]; omega
          | false =>
            obtain ⟨_, g4⟩ := fndV_no h3
            replace hkx := Lib.hid (show kx = false by rw [hkx]; simp [e0, h1, e2, e3, h3])
            replace hst := Lib.hid (show kj = false by rw [hst.out, hkx.out]; simp)
            clear hkx e0 e2 e3
            go_wp2_with fail
            have q0 : (wr.alloc (.cells #[.int .u32 x.c, .int .u32 x.k, .int .u32 x.lc, .int .u32 x.lk, .int .u32 x.rc, .int .u32 x.rk, .int .i32 x.ch] 27)).cell? ⟨wr.heap.size, 0, none⟩ = some (Vu x.c) := by simp [go_sem]
            have q1 : (wr.alloc (.cells #[.int .u32 x.c, .int .u32 x.k, .int .u32 x.lc, .int .u32 x.lk, .int .u32 x.rc, .int .u32 x.rk, .int .i32 x.ch] 27)).cell? ⟨wr.heap.size, 1, none⟩ = some (Vu x.k) := by simp [go_sem]
            have q2 : (wr.alloc (.cells #[.int .u32 x.c, .int .u32 x.k, .int .u32 x.lc, .int .u32 x.lk, .int .u32 x.rc, .int .u32 x.rk, .int .i32 x.ch] 27)).cell? ⟨wr.heap.size, 2, none⟩ = some (Vu x.lc) := by simp [go_sem]
            have q3 : (wr.alloc (.cells #[.int .u32 x.c, .int .u32 x.k, .int .u32 x.lc, .int .u32 x.lk, .int .u32 x.rc, .int .u32 x.rk, .int .i32 x.ch] 27)).cell? ⟨wr.heap.size, 3, none⟩ = some (Vu x.lk) := by simp [go_sem]
            have q4 : (wr.alloc (.cells #[.int .u32 x.c, .int .u32 x.k, .int .u32 x.lc, .int .u32 x.lk, .int .u32 x.rc, .int .u32 x.rk, .int .i32 x.ch] 27)).cell? ⟨wr.heap.size, 4, none⟩ = some (Vu x.rc) := by simp [go_sem]
            have q5 : (wr.alloc (.cells #[.int .u32 x.c, .int .u32 x.k, .int .u32 x.lc, .int .u32 x.lk, .int .u32 x.rc, .int .u32 x.rk, .int .i32 x.ch] 27)).cell? ⟨wr.heap.size, 5, none⟩ = some (Vu x.rk) := by simp [go_sem]
            have x1 : Ext wr (wr.alloc (.cells #[.int .u32 x.c, .int .u32 x.k, .int .u32 x.lc, .int .u32 x.lk, .int .u32 x.rc, .int .u32 x.rk, .int .i32 x.ch] 27)) := (Ext.refl _).alloc _
            generalize wr.alloc (.cells #[.int .u32 x.c, .int .u32 x.k, .int .u32 x.lc, .int .u32 x.lk, .int .u32 x.rc, .int .u32 x.rk, .int .i32 x.ch] 27) = W at *
            generalize wr.heap.size = py at *
            replace q0 := cell_regrown q0
            replace q1 := cell_regrown q1
            replace q2 := cell_regrown q2
            replace q3 := cell_regrown q3
            replace q4 := cell_regrown q4
            replace q5 := cell_regrown q5
            refine wp_region_quiet_below (by kernel_rfl) (by kernel_rfl) ?_
            repeat go_big_quiet_step ((with_reducible exact Calls.in_regrown (hcall.out _ _ _ (x1.trans (Ext.regrown _ _ _)))))
            refine wpQuiet_nil ?_
            intro _ hw'
            obtain ⟨⟨dq, osq⟩, hw''⟩ := hw'
            subst hw''
            go_wp2
            go_ret
            exact ⟨ret_bool (by rw [← hrel.out, hst.out]), (hx.trans x1).trans (Ext.regrown _ _ _)⟩
        have g2 : (x.lc != 0) = true := by simpa using e2
        cases h2 : hasI (l.take j) (x.lc, x.lk) with
        | false =>
          obtain ⟨_, g5⟩ := fndV_no h2
          replace hkx := Lib.hid (show kx = false by rw [hkx]; simp [e2, h2])
          replace hst := Lib.hid (show kj = false by rw [hst.out, hkx.out]; simp)
          clear hkx e0 e2
          go_wp2_with fail
          have q0 : (wr.alloc (.cells #[.int .u32 x.c, .int .u32 x.k, .int .u32 x.lc, .int .u32 x.lk, .int .u32 x.rc, .int .u32 x.rk, .int .i32 x.ch] 27)).cell? ⟨wr.heap.size, 0, none⟩ = some (Vu x.c) := by simp [go_sem]
          have q1 : (wr.alloc (.cells #[.int .u32 x.c, .int .u32 x.k, .int .u32 x.lc, .int .u32 x.lk, .int .u32 x.rc, .int .u32 x.rk, .int .i32 x.ch] 27)).cell? ⟨wr.heap.size, 1, none⟩ = some (Vu x.k) := by simp [go_sem]
          have q2 : (wr.alloc (.cells #[.int .u32 x.c, .int .u32 x.k, .int .u32 x.lc, .int .u32 x.lk, .int .u32 x.rc, .int .u32 x.rk, .int .i32 x.ch] 27)).cell? ⟨wr.heap.size, 2, none⟩ = some (Vu x.lc) := by simp [go_sem]
          have q3 : (wr.alloc (.cells #[.int .u32 x.c, .int .u32 x.k, .int .u32 x.lc, .int .u32 x.lk, .int .u32 x.rc, .int .u32 x.rk, .int .i32 x.ch] 27)).cell? ⟨wr.heap.size, 3, none⟩ = some (Vu x.lk) := by simp [go_sem]
          have q4 : (wr.alloc (.cells #[.int .u32 x.c, .int .u32 x.k, .int .u32 x.lc, .int .u32 x.lk, .int .u32 x.rc, .int .u32 x.rk, .int .i32 x.ch] 27)).cell? ⟨wr.heap.size, 4, none⟩ = some (Vu x.rc) := by simp [go_sem]
          have q5 : (wr.alloc (.cells #[.int .u32 x.c, .int .u32 x.k, .int .u32 x.lc, .int .u32 x.lk, .int .u32 x.rc, .int .u32 x.rk, .int .i32 x.ch] 27)).cell? ⟨wr.heap.size, 5, none⟩ = some (Vu x.rk) := by simp [go_sem]
          have x1 : Ext wr (wr.alloc (.cells #[.int .u32 x.c, .int .u32 x.k, .int .u32 x.lc, .int .u32 x.lk, .int .u32 x.rc, .int .u32 x.rk, .int .i32 x.ch] 27)) := (Ext.refl _).alloc _
          generalize wr.alloc (.cells #[.int .u32 x.c, .int .u32 x.k, .int .u32 x.lc, .int .u32 x.lk, .int .u32 x.rc, .int .u32 x.rk, .int .i32 x.ch] 27) = W at *
          generalize wr.heap.size = py at *
          replace q0 := cell_regrown q0
          replace q1 := cell_regrown q1
          replace q2 := cell_regrown q2
          replace q3 := cell_regrown q3
          replace q4 := cell_regrown q4
          replace q5 := cell_regrown q5
          refine wp_region_quiet_below (by kernel_rfl) (by kernel_rfl) ?_
          repeat go_big_quiet_step ((with_reducible exact Calls.in_regrown (hcall.out _ _ _ (x1.trans (Ext.regrown _ _ _)))))
          refine wpQuiet_nil ?_
          intro _ hw'
          obtain ⟨⟨dq, osq⟩, hw''⟩ := hw'
          subst hw''
          go_wp2
          go_ret
          exact ⟨ret_bool (by rw [← hrel.out, hst.out]), (hx.trans x1).trans (Ext.regrown _ _ _)⟩
        | true =>
          obtain ⟨_, g5⟩ := fndV_yes h2
          by_cases e3 : x.rc = 0
          · have g3 : (x.rc != 0) = false := by simpa using e3
            replace hkx := Lib.hid (show kx = true by rw [hkx]; simp [e0, h1, h2, e3])
            replace hst := Lib.hid (show kj = knownG (l.take (j + 1)) (l.drop (j + 1)) by rw [hst.out, hkx.out]; simp)
            clear hkx e0 e2 e3
            go_wp2_with fail
            have q0 : (wr.alloc (.cells #[.int .u32 x.c, .int .u32 x.k, .int .u32 x.lc, .int .u32 x.lk, .int .u32 x.rc, .int .u32 x.rk, .int .i32 x.ch] 27)).cell? ⟨wr.heap.size, 0, none⟩ = some (Vu x.c) := by simp [go_sem]
            have q1 : (wr.alloc (.cells #[.int .u32 x.c, .int .u32 x.k, .int .u32 x.lc, .int .u32 x.lk, .int .u32 x.rc, .int .u32 x.rk, .int .i32 x.ch] 27)).cell? ⟨wr.heap.size, 1, none⟩ = some (Vu x.k) := by simp [go_sem]
            have q2 : (wr.alloc (.cells #[.int .u32 x.c, .int .u32 x.k, .int .u32 x.lc, .int .u32 x.lk, .int .u32 x.rc, .int .u32 x.rk, .int .i32 x.ch] 27)).cell? ⟨wr.heap.size, 2, none⟩ = some (Vu x.lc) := by simp [go_sem]
            have q3 : (wr.alloc (.cells #[.int .u32 x.c, .int .u32 x.k, .int .u32 x.lc, .int .u32 x.lk, .int .u32 x.rc, .int .u32 x.rk, .int .i32 x.ch] 27)).cell? ⟨wr.heap.size, 3, none⟩ = some (Vu x.lk) := by simp [go_sem]
            have q4 : (wr.alloc (.cells #[.int .u32 x.c, .int .u32 x.k, .int .u32 x.lc, .int .u32 x.lk, .int .u32 x.rc, .int .u32 x.rk, .int .i32 x.ch] 27)).cell? ⟨wr.heap.size, 4, none⟩ = some (Vu x.rc) := by simp [go_sem]
            have q5 : (wr.alloc (.cells #[.int .u32 x.c, .int .u32 x.k, .int .u32 x.lc, .int .u32 x.lk, .int .u32 x.rc, .int .u32 x.rk, .int .i32 x.ch] 27)).cell? ⟨wr.heap.size, 5, none⟩ = some (Vu x.rk) := by simp [go_sem]
            have x1 : Ext wr (wr.alloc (.cells #[.int .u32 x.c, .int .u32 x.k, .int .u32 x.lc, .int .u32 x.lk, .int .u32 x.rc, .int .u32 x.rk, .int .i32 x.ch] 27)) := (Ext.refl _).alloc _
            generalize wr.alloc (.cells #[.int .u32 x.c, .int .u32 x.k, .int .u32 x.lc, .int .u32 x.lk, .int .u32 x.rc, .int .u32 x.rk, .int .i32 x.ch] 27) = W at *
            generalize wr.heap.size = py at *
            replace q0 := cell_regrown q0
            replace q1 := cell_regrown q1
            replace q2 := cell_regrown q2
            replace q3 := cell_regrown q3
            replace q4 := cell_regrown q4
            replace q5 := cell_regrown q5
            refine wp_region_quiet_below (by kernel_rfl) (by kernel_rfl) ?_
            repeat go_big_quiet_step ((with_reducible exact Calls.in_regrown (hcall.out _ _ _ (x1.trans (Ext.regrown _ _ _)))))
            refine wpQuiet_nil ?_
            intro _ hw'
            obtain ⟨⟨dq, osq⟩, hw''⟩ := hw'
            subst hw''
            go_wp2
            go_roundw
            case rel => exact ⟨j + 1, by omega, by go_num, Lib.hid (by rw [← hst.out, hrel.out]), (hx.trans x1).trans (Ext.regrown _ _ _)⟩
            case measure => simp [intOf]; omega
          have g3 : (x.rc != 0) = true := by simpa using e3
          cases h3 : hasI (l.take j) (x.rc, x.rk) with
          | true =>
            obtain ⟨_, g4⟩ := fndV_yes h3
            replace hkx := Lib.hid (show kx = true by rw [hkx]; simp [e0, h1, h2, h3])
            replace hst := Lib.hid (show kj = knownG (l.take (j + 1)) (l.drop (j + 1)) by rw [hst.out, hkx.out]; simp)
            clear hkx e0 e2 e3
            go_wp2_with fail
            have q0 : (wr.alloc (.cells #[.int .u32 x.c, .int .u32 x.k, .int .u32 x.lc, .int .u32 x.lk, .int .u32 x.rc, .int .u32 x.rk, .int .i32 x.ch] 27)).cell? ⟨wr.heap.size, 0, none⟩ = some (Vu x.c) := by simp [go_sem]
            have q1 : (wr.alloc (.cells #[.int .u32 x.c, .int .u32 x.k, .int .u32 x.lc, .int .u32 x.lk, .int .u32 x.rc, .int .u32 x.rk, .int .i32 x.ch] 27)).cell? ⟨wr.heap.size, 1, none⟩ = some (Vu x.k) := by simp [go_sem]
            have q2 : (wr.alloc (.cells #[.int .u32 x.c, .int .u32 x.k, .int .u32 x.lc, .int .u32 x.lk, .int .u32 x.rc, .int .u32 x.rk, .int .i32 x.ch] 27)).cell? ⟨wr.heap.size, 2, none⟩ = some (Vu x.lc) := by simp [go_sem]
            have q3 : (wr.alloc (.cells #[.int .u32 x.c, .int .u32 x.k, .int .u32 x.lc, .int .u32 x.lk, .int .u32 x.rc, .int .u32 x.rk, .int .i32 x.ch] 27)).cell? ⟨wr.heap.size, 3, none⟩ = some (Vu x.lk) := by simp [go_sem]
            have q4 : (wr.alloc (.cells #[.int .u32 x.c, .int .u32 x.k, .int .u32 x.lc, .int .u32 x.lk, .int .u32 x.rc, .int .u32 x.rk, .int .i32 x.ch] 27)).cell? ⟨wr.heap.size, 4, none⟩ = some (Vu x.rc) := by simp [go_sem]
            have q5 : (wr.alloc (.cells #[.int .u32 x.c, .int .u32 x.k, .int .u32 x.lc, .int .u32 x.lk, .int .u32 x.rc, .int .u32 x.rk, .int .i32 x.ch] 27)).cell? ⟨wr.heap.size, 5, none⟩ = some (Vu x.rk) := by simp [go_sem]
            have x1 : Ext wr (wr.alloc (.cells #[.int .u32 x.c, .int .u32 x.k, .int .u32 x.lc, .int .u32 x.lk, .int .u32 x.rc, .int .u32 x.rk, .int .i32 x.ch] 27)) := (Ext.refl _).alloc _
            generalize wr.alloc (.cells #[.int .u32 x.c, .int .u32 x.k, .int .u32 x.lc, .int .u32 x.lk, .int .u32 x.rc, .int .u32 x.rk, .int .i32 x.ch] 27) = W at *
            generalize wr.heap.size = py at *
            replace q0 := cell_regrown q0
            replace q1 := cell_regrown q1
            replace q2 := cell_regrown q2
            replace q3 := cell_regrown q3
            replace q4 := cell_regrown q4
            replace q5 := cell_regrown q5
            refine wp_region_quiet_below (by kernel_rfl) (by kernel_rfl) ?_
            repeat go_big_quiet_step ((with_reducible exact Calls.in_regrown (hcall.out _ _ _ (x1.trans (Ext.regrown _ _ _)))))
            refine wpQuiet_nil ?_
            intro _ hw'
            obtain ⟨⟨dq, osq⟩, hw''⟩ := hw'
            subst hw''
            go_wp2
            go_roundw
            case rel => exact ⟨j + 1, by omega, by go_num, Lib.hid (by rw [← hst.out, hrel.out]), (hx.trans x1).trans (Ext.regrown _ _ _)⟩
            case measure => simp [intOf]; omega
          | false =>
            obtain ⟨_, g4⟩ := fndV_no h3
            replace hkx := Lib.hid (show kx = false by rw [hkx]; simp [e0, h1, h2, e3, h3])
            replace hst := Lib.hid (show kj = false by rw [hst.out, hkx.out]; simp)
            clear hkx e0 e2 e3
            go_wp2_with fail
            have q0 : (wr.alloc (.cells #[.int .u32 x.c, .int .u32 x.k, .int .u32 x.lc, .int .u32 x.lk, .int .u32 x.rc, .int .u32 x.rk, .int .i32 x.ch] 27)).cell? ⟨wr.heap.size, 0, none⟩ = some (Vu x.c) := by simp [go_sem]
            have q1 : (wr.alloc (.cells #[.int .u32 x.c, .int .u32 x.k, .int .u32 x.lc, .int .u32 x.lk, .int .u32 x.rc, .int .u32 x.rk, .int .i32 x.ch] 27)).cell? ⟨wr.heap.size, 1, none⟩ = some (Vu x.k) := by simp [go_sem]
            have q2 : (wr.alloc (.cells #[.int .u32 x.c, .int .u32 x.k, .int .u32 x.lc, .int .u32 x.lk, .int .u32 x.rc, .int .u32 x.rk, .int .i32 x.ch] 27)).cell? ⟨wr.heap.size, 2, none⟩ = some (Vu x.lc) := by simp [go_sem]
            have q3 : (wr.alloc (.cells #[.int .u32 x.c, .int .u32 x.k, .int .u32 x.lc, .int .u32 x.lk, .int .u32 x.rc, .int .u32 x.rk, .int .i32 x.ch] 27)).cell? ⟨wr.heap.size, 3, none⟩ = some (Vu x.lk) := by simp [go_sem]
            have q4 : (wr.alloc (.cells #[.int .u32 x.c, .int .u32 x.k, .int .u32 x.lc, .int .u32 x.lk, .int .u32 x.rc, .int .u32 x.rk, .int .i32 x.ch] 27)).cell? ⟨wr.heap.size, 4, none⟩ = some (Vu x.rc) := by simp [go_sem]
            have q5 : (wr.alloc (.cells #[.int .u32 x.c, .int .u32 x.k, .int .u32 x.lc, .int .u32 x.lk, .int .u32 x.rc, .int .u32 x.rk, .int .i32 x.ch] 27)).cell? ⟨wr.heap.size, 5, none⟩ = some (Vu x.rk) := by simp [go_sem]
            have x1 : Ext wr (wr.alloc (.cells #[.int .u32 x.c, .int .u32 x.k, .int .u32 x.lc, .int .u32 x.lk, .int .u32 x.rc, .int .u32 x.rk, .int .i32 x.ch] 27)) := (Ext.refl _).alloc _
            generalize wr.alloc (.cells #[.int .u32 x.c, .int .u32 x.k, .int .u32 x.lc, .int .u32 x.lk, .int .u32 x.rc, .int .u32 x.rk, .int .i32 x.ch] 27) = W at *
            generalize wr.heap.size = py at *
            replace q0 := cell_regrown q0
            replace q1 := cell_regrown q1
            replace q2 := cell_regrown q2
            replace q3 := cell_regrown q3
            replace q4 := cell_regrown q4
            replace q5 := cell_regrown q5
            refine wp_region_quiet_below (by kernel_rfl) (by kernel_rfl) ?_
            repeat go_big_quiet_step ((with_reducible exact Calls.in_regrown (hcall.out _ _ _ (x1.trans (Ext.regrown _ _ _)))))
            refine wpQuiet_nil ?_
            intro _ hw'
            obtain ⟨⟨dq, osq⟩, hw''⟩ := hw'
            subst hw''
            go_wp2
            go_ret
            exact ⟨ret_bool (by rw [← hrel.out, hst.out]), (hx.trans x1).trans (Ext.regrown _ _ _)⟩
    · have hz := Lib.hid (show true = R by rw [← hrel.out, List.drop_eq_nil_of_le (by rw [hn.out]; omega)]; rfl)
      go_wp2
      go_ret
      exact ⟨ret_bool hz.out, hx⟩

end Go.Proofs.Ytnocdfmmhnnbeaa

namespace Go.Proofs.Ytnocdfmmhnnbeaa
open Go.ChangeShapes Go.WideShapes Go.ChangeAt Go.RowKit Go.Sort
set_option linter.unusedVariables false
set_option linter.unusedSimpArgs false
attribute [local go_sem] World.cell?_alloc_some

theorem walk_ref (A B : Option Addr) (n cap cap2 : Nat) (l : List It) (hk : knownI l = true) (hn : l.length = n) (hb : n ≤ 1000000000000) : ∀ (m : Nat) (g : Hg) (w : World), ItS w A l → HgS w B (hangsP l) → (g.on = (0, 0) ∨ hasI l g.on = true) → n ≤ m + (pth l g.on).length →
    Calls Try.prog 20 #[.slice A n cap, .slice B n cap2, hgv g] w (RetO w (walkS l (hangsP l) m g)) := by
  intro m
  induction m with
  | zero =>
    intro g w hv hu hg hd
    have hz := kid_zero hk hg (by omega)
    have := walk_core A B n cap cap2 l hk hn hb g w hv hu (fun _ => []) (fun _ => []) (by rw [hz]; exact Nat.zero_le _) (fun c hc => by rw [hz] at hc; cases hc) (fun c hc => by rw [hz] at hc; cases hc)
    rw [hz] at this
    exact this
  | succ m ih =>
    intro g w hv hu hg hd
    have hkid := fun c (hc : c ∈ kidS l g) => kid_deep hk hg hc
    have hl := walk_len hk (m + 1) g hg
    rw [walk_step, hn] at hl
    exact walk_core A B n cap cap2 l hk hn hb g w hv hu (fun c => walkS l (hangsP l) m ⟨c, false⟩) (fun c => walkS l (hangsP l) m ⟨c, true⟩) hl
      (fun c hc W hW => ih ⟨c, false⟩ W (hv.ext hW) (hu.ext hW) (.inr (hkid c hc).1) (by have := (hkid c hc).2; show n ≤ m + (pth l c).length; omega))
      (fun c hc W hW => ih ⟨c, true⟩ W (hv.ext hW) (hu.ext hW) (.inr (hkid c hc).1) (by have := (hkid c hc).2; show n ≤ m + (pth l c).length; omega))

/-- all Ids in order -/
def ordW (l : List It) : List I2 := walkS l (hangsP l) l.length ⟨(0, 0), true⟩
theorem ordW_is {l : List It} (h : knownI l = true) : IsOrd l (ordW l) := walk_ord h _ (Nat.le_refl _)

set_option maxRecDepth 100000 in
set_option maxHeartbeats 4000000 in
theorem order_ref (A : Option Addr) (n cap : Nat) (l : List It) (w : World) (hv : ItS w A l) (hk : knownI l = true) (hn : l.length = n) (hcp : n ≤ cap) (hb : n ≤ 1000000000000) :
    Calls Try.prog 11 #[.slice A n cap] w (RetO w (ordW l)) := by
  have hc1 := Lib.hid (hangs_ref A n cap l w hv hk hn hcp hb)
  have hc2 := Lib.hid (fun (B : Option Addr) (cap2 : Nat) (W : World) (hW : Ext w W) (hu : HgS W B (hangsP l)) => walk_ref A B n cap cap2 l hk hn hb l.length ⟨(0, 0), true⟩ W (hv.ext hW) hu (.inl rfl) (by omega))
  have hhl := Lib.hid (show (hangsP l).length = n by rw [hangs_len, hn])
  clear hn
  go_enter Try.func11, Try.ntmps11
  go_wp2_with fail
  refine hc1.out.mono ?_
  rintro e w1 ⟨v, rfl, o1, x1⟩
  obtain ⟨B, cap2, rfl, _, hH⟩ := o1.open
  rw [hhl.out]
  go_wp2_with fail
  refine (hc2.out B cap2 _ x1 hH).mono ?_
  rintro e w2 ⟨v2, rfl, o2, x2⟩
  go_wp2
  go_ret
  exact ⟨v2, rfl, o2.down x1, x1.trans x2⟩

/-- are two lists of Ids the same? -/
theorem od_eqb (a b : I2) (W : World) : (binOp .neq 25 (.agg #[.int .u32 a.1, .int .u32 a.2]) (.agg #[.int .u32 b.1, .int .u32 b.2])).run Try.prog W = .ok (.bool (!decide (a = b))) W := by
  obtain ⟨a1, a2⟩ := a
  obtain ⟨b1, b2⟩ := b
  by_cases h1 : a1 = b1
  · by_cases h2 : a2 = b2
    · subst h1; subst h2; simp [go_sem]
    · have h : (a2 == b2) = false := by simpa using h2
      subst h1
      simp [go_sem, h, h2]
  · have h : (a1 == b1) = false := by simpa using h1
    simp [go_sem, h, h1]
set_option maxRecDepth 100000 in
set_option maxHeartbeats 4000000 in
theorem sameO_ref (A B : Option Addr) (n m cap cap2 : Nat) (a b : List I2) (w : World) (hv : OdS w A a) (hu : OdS w B b) (hn : a.length = n) (hm : b.length = m) (hb : n ≤ 1000000000000000) (hb2 : m ≤ 1000000000000000) :
    Calls Try.prog 9 #[.slice A n cap, .slice B m cap2] w fun e w' => e = .returned (.bool (decide (a = b))) ∧ Ext w w' := by
  by_cases hnm : n = m
  · subst hnm
    obtain ⟨R, hR⟩ : ∃ R : Bool, decide (a = b) = R := ⟨_, rfl⟩
    rw [hR]
    have hR0 := Lib.hid (show decide (a.drop 0 = b.drop 0) = R from hR)
    clear hR
    replace hn := Lib.hid hn
    replace hm := Lib.hid hm
    replace hv := Lib.hid hv
    replace hu := Lib.hid hu
    have heq := Lib.hid od_eqb
    go_enter Try.func9, Try.ntmps9
    go_wp2
    go_loopw [5] (fun i W => ∃ (j : Nat), j ≤ n ∧ i = Vi j ∧ Hid (decide (a.drop j = b.drop j) = R) ∧ Ext w W) (fun i _ => n - (intOf i).toNat)
    case atStart => exact ⟨0, Nat.zero_le _, rfl, hR0, Ext.refl _⟩
    case round =>
      clear hR0
      obtain ⟨j, hj, rfl, hrel, hx⟩ := hrel
      by_cases hlt : j < n
      · obtain ⟨b1, o1, x, hA, hp, c0, c1⟩ := (hv.out.ext hx).at (k := j) (by rw [hn.out]; exact hlt)
        obtain ⟨b2, o2, y, hB, hq, d0, d1⟩ := (hu.out.ext hx).at (k := j) (by rw [hm.out]; exact hlt)
        have hi1 : (0 : Int) ≤ (j : Int) := by omega
        have hi2 : (j : Int) < (n : Int) := by omega
        have hr := hrel.out
        rw [drop_get hp, drop_get hq] at hr
        by_cases he : x = y
        · have hne : ∀ W : World, (binOp .neq 25 (.agg #[.int .u32 x.1, .int .u32 x.2]) (.agg #[.int .u32 y.1, .int .u32 y.2])).run Try.prog W = .ok (.bool false) W := fun W => by rw [heq.out, decide_eq_true he]; rfl
          have hr2 := Lib.hid (show decide (a.drop (j + 1) = b.drop (j + 1)) = R by rw [← hr]; simp [he])
          clear hr he hp hq hrel
          subst hA
          subst hB
          go_wp2
          go_quiet (fail)
          go_wp2
          go_roundw
          case rel => exact ⟨j + 1, by omega, by go_num, hr2, hx.drewN _⟩
          case measure => simp [intOf]; omega
        · have hne : ∀ W : World, (binOp .neq 25 (.agg #[.int .u32 x.1, .int .u32 x.2]) (.agg #[.int .u32 y.1, .int .u32 y.2])).run Try.prog W = .ok (.bool true) W := fun W => by rw [heq.out, decide_eq_false he]; rfl
          have hr2 := Lib.hid (show false = R by rw [← hr]; simp [he])
          clear hr he hp hq hrel
          subst hA
          subst hB
          go_wp2
          go_quiet (fail)
          go_wp2
          go_ret
          exact ⟨ret_bool hr2.out, hx.drewN _⟩
      · have hz := Lib.hid (show true = R by rw [← hrel.out, List.drop_eq_nil_of_le (by rw [hn.out]; omega), List.drop_eq_nil_of_le (by rw [hm.out]; omega)]; simp)
        go_wp2
        go_ret
        exact ⟨ret_bool hz.out, hx⟩
  · have hz := Lib.hid (show decide (a = b) = false from decide_eq_false (fun e => hnm (by rw [← hn, ← hm, e])))
    have hd : ((n : Int) != (m : Int)) = true := by simp; omega
    clear hn hm
    go_enter Try.func9, Try.ntmps9
    go_wp2
    go_ret
    exact ⟨ret_bool (a := false) hz.out.symm, Ext.refl _⟩

end Go.Proofs.Ytnocdfmmhnnbeaa

namespace Go.Proofs.Ytnocdfmmhnnbeaa
open Go.ChangeShapes Go.WideShapes Go.ChangeAt Go.RowKit Go.Sort
set_option linter.unusedVariables false
set_option linter.unusedSimpArgs false
attribute [local go_sem] World.cell?_alloc_some

/-- what the slots hold -/
def tpcTab (A : Option Addr) (n cap : Nat) (hs : List Hg) (x : It) (ra rb : Int) (rr : Bool) (s0 : Nat) : SoftTab := [(6, fun z9 W => z9 = .slice A n cap),
  (7, fun z9 W => z9 = .slice A n cap),
  (8, fun z9 W => ∃ q : Option Addr × Nat, z9 = .slice q.1 n q.2 ∧ HgS W q.1 hs),
  (9, fun z9 W => z9 = itv x),
  (10, fun z9 W => z9 = hgv ⟨(ra, rb), rr⟩),
  (5, fun z9 W => ∃ q, z9 = .pointer (some ⟨q, 0, none⟩) ∧ s0 ≤ q ∧ HgIs W q ⟨(0, 0), false⟩)]
theorem tpcTab_mono (A : Option Addr) (n cap : Nat) (hs : List Hg) (x : It) (ra rb : Int) (rr : Bool) (s0 : Nat) (Rel : World → World → Prop) (hR : ∀ W W', Rel W W' → Ext W W') : SoftMonoR Rel (tpcTab A n cap hs x ra rb rr s0) := by
  intro p hp v W W' h hx
  simp only [tpcTab, List.mem_cons, List.not_mem_nil, or_false] at hp
  rcases hp with rfl | rfl | rfl | rfl | rfl | rfl
  all_goals first
    | exact h
    | (obtain ⟨q, h1, h2, h3⟩ := h
       exact ⟨q, h1, h2, h3.ext (hR _ _ hx)⟩)
    | (obtain ⟨q, h1, h2⟩ := h
       exact ⟨q, h1, h2.ext (hR _ _ hx)⟩)

set_option maxRecDepth 100000 in
set_option maxHeartbeats 8000000 in
theorem placeT_ref (A : Option Addr) (n cap : Nat) (l : List It) (x : It) (w : World) (hv : ItS w A l) (hk : knownI l = true) (hn : l.length = n) (hcp : n ≤ cap) (hb : n ≤ 1000000000000) :
    Calls Try.prog 14 #[.slice A n cap, itv x] w fun e w' => e = .returned (hgv (fixV x (plcV l (hangsP l) x))) ∧ Ext w w' := by
  have hhl := Lib.hid (show (hangsP l).length = n by rw [hangs_len, hn])
  have hcA := Lib.hid (fun (W : World) (hW : Ext w W) => hangs_ref A n cap l W (hv.ext hW) hk hn hcp hb)
  have hcB := Lib.hid (fun (B : Option Addr) (cap2 : Nat) (W : World) (hW : Ext w W) (hu : HgS W B (hangsP l)) => place_ref A B n cap cap2 l (hangsP l) x W (hv.ext hW) hu hn hhl.out (by omega))
  obtain ⟨R, hans⟩ : ∃ R, R = fixV x (plcV l (hangsP l) x) := ⟨_, rfl⟩
  rw [← hans]
  generalize plcV l (hangsP l) x = P at *
  generalize hangsP l = hs at *
  obtain ⟨⟨ra, rb⟩, rr⟩ := P
  replace hans := Lib.hid hans
  clear hv hk hn
  go_enter Try.func14, Try.ntmps14
  go_wp2_with fail
  obtain ⟨w1, hw1⟩ : ∃ W, (w.alloc (.cells #[.int .u32 x.c, .int .u32 x.k, .int .u32 x.lc, .int .u32 x.lk, .int .u32 x.rc, .int .u32 x.rk, .int .i32 x.ch] 27)).alloc (.cells #[.int .u32 0, .int .u32 0, .bool false] 37) = W := ⟨_, rfl⟩
  have a0 : w1.cell? ⟨w.heap.size, 0, none⟩ = some (Vu x.c) := by rw [← hw1]; simp [go_sem]
  have a1 : w1.cell? ⟨w.heap.size, 1, none⟩ = some (Vu x.k) := by rw [← hw1]; simp [go_sem]
  have a2 : w1.cell? ⟨w.heap.size, 2, none⟩ = some (Vu x.lc) := by rw [← hw1]; simp [go_sem]
  have a3 : w1.cell? ⟨w.heap.size, 3, none⟩ = some (Vu x.lk) := by rw [← hw1]; simp [go_sem]
  have a4 : w1.cell? ⟨w.heap.size, 4, none⟩ = some (Vu x.rc) := by rw [← hw1]; simp [go_sem]
  have a5 : w1.cell? ⟨w.heap.size, 5, none⟩ = some (Vu x.rk) := by rw [← hw1]; simp [go_sem]
  have a6 : w1.cell? ⟨w.heap.size, 6, none⟩ = some (.int .i32 x.ch) := by rw [← hw1]; simp [go_sem]
  have b0 : HgIs w1 (w.heap.size + 1) ⟨(0, 0), false⟩ := by
    have := HgIs.new (w.alloc (.cells #[.int .u32 x.c, .int .u32 x.k, .int .u32 x.lc, .int .u32 x.lk, .int .u32 x.rc, .int .u32 x.rk, .int .i32 x.ch] 27)) 0 0 false
    rw [show (w.alloc (.cells #[.int .u32 x.c, .int .u32 x.k, .int .u32 x.lc, .int .u32 x.lk, .int .u32 x.rc, .int .u32 x.rk, .int .i32 x.ch] 27)).heap.size = w.heap.size + 1 by simp] at this
    rw [← hw1]; exact this
  have x1 : Ext w w1 := by rw [← hw1]; exact ((Ext.refl _).alloc _).alloc _
  have hwb : w.heap.size ≤ w.heap.size + 1 := by omega
  rw [hw1]
  clear hw1
  have hc1 := Lib.hid (fun (W : World) (hW : Ext w1 W) => hcA.out W (x1.trans hW))
  have hc2 := Lib.hid (fun (B : Option Addr) (cap2 : Nat) (W : World) (hW : Ext w1 W) (hu : HgS W B hs) => hcB.out B cap2 W (x1.trans hW) hu)
  clear hcA hcB
  obtain ⟨pr, hpr⟩ : ∃ pr, w.heap.size + 1 = pr := ⟨_, rfl⟩
  obtain ⟨pb, hpb⟩ : ∃ pb, w.heap.size = pb := ⟨_, rfl⟩
  rw [hpr] at b0 hwb ⊢
  rw [hpb] at a0 a1 a2 a3 a4 a5 a6 ⊢
  clear hpr hpb
  replace b0 := Lib.hid b0
  obtain ⟨s0, hs0⟩ : ∃ s0, w1.heap.size = s0 := ⟨_, rfl⟩
  replace hs0 := Lib.hid hs0
  refine wp_soft_frame Ext 6 (tpcTab A n cap hs x ra rb rr s0) (by kernel_rfl) (by kernel_rfl) (fun _ _ _ => Ext.trans) ((Ext.refl _).drew) rfl (by show List.Nodup [6, 7, 8, 9, 10, 5]; decide) (by show ∀ d ∈ [6, 7, 8, 9, 10, 5], d < 22; decide) (tpcTab_mono A n cap hs x ra rb rr s0 Ext (fun _ _ h => h)) ?_ ⟨?_, ?_, ?_, ?_, ?_, ?_, trivial⟩
  · intro W vs hT hR
    match vs, hT with
    | [v0, v1, v2, v3, v4, v5], ⟨e0, e1, e2, e3, e4, e5, _⟩ =>
      simp only [tpcTab, List.map_cons, List.map_nil, List.zip_cons_cons, List.zip_nil_left, putAll, List.setIfInBounds_toArray, List.set_cons_zero, List.set_cons_succ, List.drop_succ_cons, List.drop_zero]
      simp only at e0 e1 e3 e4
      obtain ⟨q2, e2, h2⟩ := e2
      obtain ⟨q5, e5, h5⟩ := e5
      rw [e0, e1, e2, e3, e4, e5]
      clear e0 e1 e2 e3 e4 e5 v0 v1 v2 v3 v4 v5
      obtain ⟨hq, hb9⟩ := h5
      have hqs : w1.heap.size ≤ q5 := hs0.out ▸ hq
      have f0 := hb9.thaw 0
      have f1 := hb9.thaw 1
      have f2 := hb9.thaw 2
      obtain ⟨k0, k1, k2⟩ := hb9.cells
      have hbS := Lib.hid (hb9.store ra rb rr)
      have xe := Lib.hid (((hR.setCell hqs (Vu ra) (p := ⟨q5, 0, none⟩)).setCell hqs (Vu rb) (p := ⟨q5, 1, none⟩)).setCell hqs (.bool rr) (p := ⟨q5, 2, none⟩))
      obtain ⟨z0, z1, z2⟩ := hbS.out.cells
      have y2 := xe.out.keep a2
      clear a0 a1 a2 a3 a4 a5 a6 hc1 hc2 hT hb9 h2
      by_cases hL : x.lc = 0
      · have hd : (x.lc == 0) = true := by simpa using hL
        cases rr with
        | true =>
          replace hans := Lib.hid (show R = ⟨(0, 0), true⟩ by rw [hans.out]; unfold fixV; rw [if_pos ⟨hL, rfl⟩])
          clear hL
          go_upto_if 18 with fail
          generalize ((W.setCell ⟨q5, 0, none⟩ (Vu ra)).setCell ⟨q5, 1, none⟩ (Vu rb)).setCell ⟨q5, 2, none⟩ (.bool true) = S at *
          have g0 := hbS.out.thaw 0
          have g1 := hbS.out.thaw 1
          have hb2 := Lib.hid (hbS.out.on 0 0)
          replace xe := Lib.hid ((xe.out.setCell hqs (Vu 0) (p := ⟨q5, 0, none⟩)).setCell hqs (Vu 0) (p := ⟨q5, 1, none⟩))
          obtain ⟨u0, u1, u2⟩ := hb2.out.cells
          clear y2
          have hbr := Lib.hid (b0.out.ext xe.out)
          obtain ⟨r0, r1, r2⟩ := hbr.out.cells
          have e0 := hbr.out.thaw 0
          have e1 := hbr.out.thaw 1
          have e2 := hbr.out.thaw 2
          go_wp2
          obtain ⟨m0, m1, m2⟩ := (hbr.out.store 0 0 true).cells
          exact bodyPost_ret (v := hgv ⟨(0, 0), true⟩) (by simp [results, Try.results14, go_sem, m0, m1, m2]) rfl ⟨by rw [hans.out], (((x1.trans xe.out).setCell hwb _).setCell hwb _).setCell hwb _⟩
        | false =>
          replace hans := Lib.hid (show R = ⟨(ra, rb), false⟩ by rw [hans.out]; unfold fixV; rw [if_neg (fun e => by cases e.2)])
          clear hL
          go_upto_if 18 with fail
          generalize ((W.setCell ⟨q5, 0, none⟩ (Vu ra)).setCell ⟨q5, 1, none⟩ (Vu rb)).setCell ⟨q5, 2, none⟩ (.bool false) = S at *
          have hbr := Lib.hid (b0.out.ext xe.out)
          obtain ⟨r0, r1, r2⟩ := hbr.out.cells
          have e0 := hbr.out.thaw 0
          have e1 := hbr.out.thaw 1
          have e2 := hbr.out.thaw 2
          go_wp2
          obtain ⟨m0, m1, m2⟩ := (hbr.out.store ra rb false).cells
          exact bodyPost_ret (v := hgv ⟨(ra, rb), false⟩) (by simp [results, Try.results14, go_sem, m0, m1, m2]) rfl ⟨by rw [hans.out], (((x1.trans xe.out).setCell hwb _).setCell hwb _).setCell hwb _⟩
      · have hd : (x.lc == 0) = false := by simpa using hL
        replace hans := Lib.hid (show R = ⟨(ra, rb), rr⟩ by rw [hans.out]; unfold fixV; rw [if_neg (fun e => hL e.1)])
        clear hL
        go_upto_if 18 with fail
        generalize ((W.setCell ⟨q5, 0, none⟩ (Vu ra)).setCell ⟨q5, 1, none⟩ (Vu rb)).setCell ⟨q5, 2, none⟩ (.bool rr) = S at *
        have hbr := Lib.hid (b0.out.ext xe.out)
        obtain ⟨r0, r1, r2⟩ := hbr.out.cells
        have e0 := hbr.out.thaw 0
        have e1 := hbr.out.thaw 1
        have e2 := hbr.out.thaw 2
        go_wp2
        obtain ⟨m0, m1, m2⟩ := (hbr.out.store ra rb rr).cells
        exact bodyPost_ret (v := hgv ⟨(ra, rb), rr⟩) (by simp [results, Try.results14, go_sem, m0, m1, m2]) rfl ⟨by rw [hans.out], (((x1.trans xe.out).setCell hwb _).setCell hwb _).setCell hwb _⟩
  · refine softR_val 6 _ (by kernel_rfl) rfl rfl ?_
    intro a W hx hout hdep
    have ev0 : a.tmps[0]?.getD undef = .slice A n cap := by rw [← Array.getD_eq_getD_getElem?]; exact hout 0 (by show 0 ∉ [6, 7, 8, 9, 10, 5]; decide)
    refine ⟨rfl, .slice A n cap, W, ?_, rfl, Ext.refl _⟩
    simp [ev0, execOp, go_sem]
  · refine softR_val 7 _ (by kernel_rfl) rfl rfl ?_
    intro a W hx hout hdep
    have ev0 : a.tmps[0]?.getD undef = .slice A n cap := by rw [← Array.getD_eq_getD_getElem?]; exact hout 0 (by show 0 ∉ [6, 7, 8, 9, 10, 5]; decide)
    refine ⟨rfl, .slice A n cap, W, ?_, rfl, Ext.refl _⟩
    simp [ev0, execOp, go_sem]
  · refine softR_call 8 _ (by kernel_rfl) rfl rfl ?_
    intro a W hx hout hdep
    have ev7 : a.tmps[7]?.getD undef = .slice A n cap := by rw [← Array.getD_eq_getD_getElem?]; exact (hdep ⟨1, .data⟩ (by simp) rfl 7 _ rfl).1
    refine ⟨rfl, 21, #[.slice A n cap], ?_, ?_⟩
    · simp [ev7, execOp, go_sem]
    · exact (hc1.out W hx).mono (by rintro e W1 ⟨v, rfl, o1, h⟩; obtain ⟨B, cap2, rfl, _, hH⟩ := o1.open; exact ⟨_, rfl, ⟨(B, cap2), by rw [hhl.out], hH⟩, h⟩)
  · refine softR_val 9 _ (by kernel_rfl) rfl rfl ?_
    intro a W hx hout hdep
    have ev3 : a.tmps[3]?.getD undef = .pointer (some ⟨pb, 0, none⟩) := by rw [← Array.getD_eq_getD_getElem?]; exact hout 3 (by show 3 ∉ [6, 7, 8, 9, 10, 5]; decide)
    have q0 := hx.keep a0
    have q1 := hx.keep a1
    have q2 := hx.keep a2
    have q3 := hx.keep a3
    have q4 := hx.keep a4
    have q5 := hx.keep a5
    have q6 := hx.keep a6
    refine ⟨rfl, itv x, W, ?_, rfl, Ext.refl _⟩
    simp [ev3, q0, q1, q2, q3, q4, q5, q6, execOp, go_sem]
  · refine softR_call 10 _ (by kernel_rfl) rfl rfl ?_
    intro a W hx hout hdep
    have ev6 : a.tmps[6]?.getD undef = .slice A n cap := by rw [← Array.getD_eq_getD_getElem?]; exact (hdep ⟨0, .data⟩ (by simp) rfl 6 _ rfl).1
    have tl8 := (hdep ⟨2, .data⟩ (by simp) rfl 8 _ rfl).1
    have ev9 : a.tmps[9]?.getD undef = itv x := by rw [← Array.getD_eq_getD_getElem?]; exact (hdep ⟨3, .data⟩ (by simp) rfl 9 _ rfl).1
    obtain ⟨qq, eq8, hH⟩ := tl8
    rw [Array.getD_eq_getD_getElem?] at eq8
    refine ⟨rfl, 27, #[.slice A n cap, .slice qq.1 n qq.2, itv x], ?_, ?_⟩
    · simp [eq8, ev6, ev9, execOp, go_sem]
    · exact (hc2.out qq.1 qq.2 W hx hH).mono (by rintro e W1 ⟨rfl, h⟩; exact ⟨_, rfl, rfl, h⟩)
  · refine softR_val 5 _ (by kernel_rfl) rfl rfl ?_
    intro a W hx hout hdep
    refine ⟨rfl, .pointer (some ⟨W.heap.size, 0, none⟩), _, ?_, ⟨_, rfl, hs0.out ▸ hx.size, HgIs.new W 0 0 false⟩, (Ext.refl W).alloc _⟩
    simp [execOp, go_sem]

end Go.Proofs.Ytnocdfmmhnnbeaa

namespace Go.Proofs.Ytnocdfmmhnnbeaa
open Go.ChangeShapes Go.WideShapes Go.ChangeAt Go.RowKit Go.Sort
set_option linter.unusedVariables false
set_option linter.unusedSimpArgs false

/-- this block is a map of these Ids, each with its element, as they came -/
def MapS (w : World) (b : Nat) (l : List (I2 × Value)) : Prop := ∃ es clk, w.heap[b]? = some (.map es clk) ∧ es.toList.map (fun e => (e.key, e.val)) = l.map fun p => (idv p.1.1 p.1.2, p.2)
/-- an Id's element -/
def lkp : List (I2 × Value) → I2 → Option Value
  | [], _ => none
  | p :: r, a => if p.1 = a then some p.2 else lkp r a

theorem MapS.lt {w : World} {b : Nat} {l : List (I2 × Value)} (h : MapS w b l) : b < w.heap.size := by
  obtain ⟨es, clk, hb, _⟩ := h
  exact (Array.getElem?_eq_some_iff.1 hb).1
theorem MapS.kept {w w' : World} {b : Nat} {l : List (I2 × Value)} {row : Option Nat} (h : MapS w b l) (hg : w.grownBy w' row) (hne : some b ≠ row) : MapS w' b l := by
  have hlt := h.lt
  obtain ⟨es, clk, hb, hl⟩ := h
  exact ⟨es, clk, (hg.block b hlt hne).trans hb, hl⟩
theorem MapS.ext {w w' : World} {b : Nat} {l : List (I2 × Value)} (h : MapS w b l) (hx : Ext w w') : MapS w' b l := by
  have hlt := h.lt
  obtain ⟨es, clk, hb, hl⟩ := h
  exact ⟨es, clk, (RowKit.Below.block hx b hlt).trans hb, hl⟩
theorem MapS.made (w : World) : MapS (w.alloc (.map #[] 0)) w.heap.size [] := ⟨#[], 0, (MapKept.heap_alloc w _).1, rfl⟩

theorem id_equal (a b c d : Int) (W : World) : (Op.equal 25 (.agg #[.int .u32 a, .int .u32 b]) (.agg #[.int .u32 c, .int .u32 d])).run Try.prog W = .ok (decide (a = c ∧ b = d)) W := by
  show (Op.equalIn 10000 25 (.agg #[.int .u32 a, .int .u32 b]) (.agg #[.int .u32 c, .int .u32 d])).run Try.prog W = _
  by_cases h1 : a = c
  · by_cases h2 : b = d
    · subst h1; subst h2; simp [go_sem]
    · have : (b == d) = false := by simpa using h2
      subst h1
      simp [go_sem, this, h2]
  · have : (a == c) = false := by simpa using h1
    simp [go_sem, this, h1]

theorem asking_is (a b : Int) (W : World) : ∀ (es : List MapEntry) (l : List (I2 × Value)) (i : Nat), es.map (fun e => (e.key, e.val)) = l.map (fun p => (idv p.1.1 p.1.2, p.2)) →
    ∃ r, (Instr.findAsking 25 (idv a b) es i).run Try.prog W = .ok r W ∧ r.map (·.2) = lkp l (a, b)
  | [], [], i, _ => ⟨none, rfl, rfl⟩
  | [], p :: l, i, h => by simp at h
  | e :: es, [], i, h => by simp at h
  | e :: es, p :: l, i, h => by
    obtain ⟨⟨c, d⟩, v⟩ := p
    simp only [List.map_cons, List.cons.injEq, Prod.mk.injEq] at h
    obtain ⟨⟨h1, h2⟩, h3⟩ := h
    by_cases hs : c = a ∧ d = b
    · obtain ⟨rfl, rfl⟩ := hs
      refine ⟨some (i, e.val), ?_, by simp [lkp, h2]⟩
      unfold Instr.findAsking
      simp [h1, id_equal, Result.andThen]
    · have hd : decide (a = c ∧ b = d) = false := decide_eq_false (fun e => hs ⟨e.1.symm, e.2.symm⟩)
      obtain ⟨r, hr, hv⟩ := asking_is a b W es l (i + 1) h3
      refine ⟨r, ?_, ?_⟩
      · unfold Instr.findAsking
        simp only [Sem.run_bind, h1, id_equal, hd, Result.andThen_ok]
        simpa using hr
      · unfold lkp
        rw [if_neg (fun e => hs (by injection e with e1 e2; exact ⟨e1, e2⟩))]
        exact hv

theorem find_is (a b : Int) (W : World) (es : List MapEntry) (l : List (I2 × Value)) (h : es.map (fun e => (e.key, e.val)) = l.map (fun p => (idv p.1.1 p.1.2, p.2))) :
    ∃ r, (Instr.findKey 25 (idv a b) es).run Try.prog W = .ok r W ∧ r.map (·.2) = lkp l (a, b) := by
  obtain ⟨r, hr, hv⟩ := asking_is a b W es l 0 h
  refine ⟨r, ?_, hv⟩
  unfold Instr.findKey
  simp only [Sem.run_bind, run_underlying Try.underlying25, Result.andThen_ok]
  cases es with
  | nil => simpa [Instr.findNow, Instr.findAsking] using hr
  | cons e es => simpa [Instr.findNow, Instr.sameNow] using hr

theorem id_check (em : Bool) (a b : Int) (W : World) : (Instr.checkKey em 10000 25 (idv a b)).run Try.prog W = .ok () W := by
  have hu : ∀ W : World, (Instr.checkKey em 9999 23 (.int .u32 a)).run Try.prog W = .ok () W := fun W => by
    show (Instr.checkKey em (9998 + 1) _ _).run Try.prog W = _
    unfold Instr.checkKey
    simp only [Sem.run_bind, run_underlying Try.underlying23, Result.andThen_ok]
    rfl
  have hv : ∀ W : World, (Instr.checkKey em 9999 23 (.int .u32 b)).run Try.prog W = .ok () W := fun W => by
    show (Instr.checkKey em (9998 + 1) _ _).run Try.prog W = _
    unfold Instr.checkKey
    simp only [Sem.run_bind, run_underlying Try.underlying23, Result.andThen_ok]
    rfl
  show (Instr.checkKey em (9999 + 1) _ _).run Try.prog W = _
  unfold Instr.checkKey
  simp [run_underlying Try.underlying25, go_sem, hu, hv]

/-- m[a] -/
theorem MapS.look {w : World} {b : Nat} {l : List (I2 × Value)} (h : MapS w b l) {T E : TypeId} (ht : Try.prog.underlying T = some (.map 25 E)) (a : I2) (z : Value) (hz : (zeroValue E).run Try.prog w = .ok z w) :
    (Instr.lookup T (.map (some b)) (.agg #[.int .u32 a.1, .int .u32 a.2]) false).run Try.prog w = .ok ((lkp l a).getD z) w := by
  obtain ⟨es, clk, hb, hl⟩ := h
  obtain ⟨r, hr, hv⟩ := find_is a.1 a.2 w es.toList l hl
  have hc := id_check es.isEmpty a.1 a.2 w
  rw [← hv]
  cases r with
  | none => simp [Instr.lookup, run_underlying ht, MapKept.run_getObj_map hb, hc, hr, hz, Result.andThen]
  | some r => simp [Instr.lookup, run_underlying ht, MapKept.run_getObj_map hb, hc, hr, Result.andThen]
/-- m[a] = v, of an Id that it hasn't -/
theorem MapS.store {w : World} {b : Nat} {l : List (I2 × Value)} (h : MapS w b l) {T E : TypeId} (ht : Try.prog.underlying T = some (.map 25 E)) (a : I2) (v : Value) (hn : lkp l a = none) :
    ∃ w', (Instr.mapUpdate T (.map (some b)) (.agg #[.int .u32 a.1, .int .u32 a.2]) v).run Try.prog w = .ok () w' ∧ MapS w' b (l ++ [(a, v)]) ∧ w.grownBy w' (some b) := by
  obtain ⟨es, clk, hb, hl⟩ := h
  obtain ⟨r, hr, hv⟩ := find_is a.1 a.2 w es.toList l hl
  rw [hn] at hv
  cases r with
  | some r => cases hv
  | none =>
    have hc := id_check false a.1 a.2 w
    refine ⟨ChangeMaps.setBlock w b (.map (es.push ⟨idv a.1 a.2, v, clk⟩) (clk + 1)), by simp [Instr.mapUpdate, run_underlying ht, MapKept.run_getObj_map hb, hc, hr, MapKept.run_setObj_map _ hb, Result.andThen, ChangeMaps.setBlock], ⟨_, _, ChangeMaps.heap_setBlock_same hb _, ?_⟩, ⟨rfl, rfl, rfl, by simp [ChangeMaps.setBlock], fun i _ hi => ChangeMaps.heap_setBlock_other hb _ (fun e => hi (by rw [e]))⟩⟩
    simp [hl]

/-- make(map, n) -/
theorem make_map {T E : TypeId} (ht : Try.prog.underlying T = some (.map 25 E)) (n : Int) (W : World) : (Instr.makeMap T (some (.int .i64 n))).run Try.prog W = .ok (.map (some W.heap.size)) (W.alloc (.map #[] 0)) := by
  unfold Instr.makeMap
  simp [run_underlying ht, asInt, newObj, go_sem, Result.andThen]
  rfl
/-- m[a] = v, at the operation -/
theorem wpList_store_map (w : World) {ops : Array Oper} {rest : List Oper} {o : Oper} {x : Act} {Q : Exit → Act → World → Prop} (hg : o.guard = none) (m k v : Operand) (T E : TypeId) (hop : o.op = Op.mapUpdate T m k v)
    (ht : Try.prog.underlying T = some (.map 25 E)) (b : Nat) (l : List (I2 × Value)) (hm : x.eval m = .map (some b)) (h : MapS w b l) (a c : Int) (val : Value) (hk : x.eval k = .agg #[.int .u32 a, .int .u32 c]) (hv : x.eval v = val) (hn : lkp l (a, c) = none)
    (hK : ∀ w', MapS w' b (l ++ [((a, c), val)]) → w.grownBy w' (some b) → wpList Try.prog ops Q rest (x.put o.dst undef) w') : wpList Try.prog ops Q (o :: rest) x w := by
  refine wpList_plain hg fun K' hK' => ?_
  obtain ⟨w', hrun, r1, r2⟩ := h.store ht (a, c) val hn
  unfold Oper.wp
  simp [execOp, hop, hm, hk, hv, hrun, Result.andThen]
  exact hK' _ _ (hK w' r1 r2)

theorem lkp_snoc (l : List (I2 × Value)) (b : I2) (v : Value) (a : I2) : lkp (l ++ [(b, v)]) a = match lkp l a with
    | some u => some u
    | none => if b = a then some v else none := by
  induction l with
  | nil => simp [lkp]
  | cons p l ih =>
    rw [List.cons_append, lkp, lkp]
    split
    · rfl
    · exact ih
theorem lkp_none {l : List (I2 × Value)} {a : I2} : lkp l a = none ↔ ∀ p ∈ l, p.1 ≠ a := by
  induction l with
  | nil => simp [lkp]
  | cons p l ih =>
    rw [lkp]
    split
    · simp_all
    · simp_all

end Go.Proofs.Ytnocdfmmhnnbeaa

namespace Go.Proofs.Ytnocdfmmhnnbeaa
open Go.ChangeShapes Go.WideShapes Go.ChangeAt Go.RowKit Go.Sort
set_option linter.unusedVariables false
set_option linter.unusedSimpArgs false
attribute [local go_sem] World.cell?_alloc_some

/-- the Ids of some, all of them there -/
def hereM (l : List It) : List (I2 × Value) := l.map fun x => (iid x, .bool true)
theorem here_lkp (l : List It) (a : I2) : lkp (hereM l) a = if hasI l a then some (.bool true) else none := by
  induction l with
  | nil => rfl
  | cons x l ih =>
    show lkp ((iid x, .bool true) :: hereM l) a = _
    rw [lkp, ih]
    unfold hasI
    by_cases h : iid x = a
    · simp [h]
    · simp [h]
theorem here_get (l : List It) (a : I2) : (lkp (hereM l) a).getD (.bool false) = .bool (hasI l a) := by
  rw [here_lkp]
  cases hasI l a <;> rfl
theorem zeroB (w : World) : (zeroValue 4).run Try.prog w = .ok (.bool false) w := by kernel_rfl
theorem MapS.here {w : World} {b : Nat} {l : List It} (h : MapS w b (hereM l)) (a c : Int) : (Instr.lookup 52 (.map (some b)) (.agg #[.int .u32 a, .int .u32 c]) false).run Try.prog w = .ok (.bool (hasI l (a, c))) w := by
  have := h.look Try.underlying52 (a, c) (.bool false) (zeroB w)
  rw [here_get] at this
  exact this

theorem noneOrOf_any (b : Nat) (l : List It) (a c : Int) (w : World) (hm : MapS w b (hereM l)) : Calls Try.prog 23 #[.map (some b), idv a c] w fun e w' => e = .returned (.bool (decide (a = 0) || hasI l (a, c))) ∧ Ext w w' := by
  obtain ⟨B, hB⟩ : ∃ B, hasI l (a, c) = B := ⟨_, rfl⟩
  rw [hB]
  replace hB := Lib.hid hB
  by_cases h0 : a = 0
  · subst h0
    go_enter Try.func23, Try.ntmps23
    go_wp2_with fail
    refine (none_any _ _ _).mono ?_
    rintro e w1 ⟨rfl, x1⟩
    go_wp2
    go_ret
    exact ⟨by simp, (((Ext.refl _).alloc _).trans x1)⟩
  · have h0' : (a == 0) = false := by simpa using h0
    have hd : decide (a = 0) = false := decide_eq_false h0
    go_enter Try.func23, Try.ntmps23
    go_wp2_with fail
    refine (none_any _ _ _).mono ?_
    rintro e w1 ⟨rfl, x1⟩
    have a0 := x1.keep (p := ⟨w.heap.size, 0, none⟩) (v := Vu a) (by simp [go_sem])
    have a1 := x1.keep (p := ⟨w.heap.size, 1, none⟩) (v := Vu c) (by simp [go_sem])
    have hl := ((hm.ext ((Ext.refl _).alloc _)).ext x1).here a c
    have xe := ((Ext.refl w).alloc (.cells #[.int .u32 a, .int .u32 c] 25)).trans x1
    rw [hB.out] at hl
    clear x1
    generalize w.heap.size = pa at *
    go_wp2
    go_ret
    exact ⟨by simp [hd], xe⟩

theorem knownG_dropK {l : List It} {j : Nat} {x : It} (h : l[j]? = some x) : knownG (l.take j) (l.drop j) = (knownX (l.take j) x && knownG (l.take (j + 1)) (l.drop (j + 1))) := by
  rw [drop_get h, knownG, take_get h]
theorem here_snoc (l : List It) (x : It) : hereM (l ++ [x]) = hereM l ++ [((x.c, x.k), .bool true)] := by simp [hereM, iid]

set_option maxRecDepth 100000 in
set_option maxHeartbeats 4000000 in
theorem known_big (A : Option Addr) (n cap : Nat) (l : List It) (w : World) (hv : ItS w A l) (hn : l.length = n) (hcp : n ≤ cap) (hb : n ≤ 1000000000000000) :
    Calls Try.prog 12 #[.slice A n cap] w fun e w' => e = .returned (.bool (knownI l)) ∧ Ext w w' := by
  obtain ⟨R, hR⟩ : ∃ R : Bool, knownI l = R := ⟨_, rfl⟩
  rw [hR]
  have hR0 := Lib.hid (show knownG (l.take 0) (l.drop 0) = R from hR)
  clear hR
  replace hn := Lib.hid hn
  replace hv := Lib.hid hv
  have hmm := make_map Try.underlying52
  obtain ⟨s0, hs0⟩ : ∃ s0, s0 = w.heap.size := ⟨_, rfl⟩
  replace hs0 := Lib.hid hs0
  go_enter Try.func12, Try.ntmps12
  go_wp2
  have x0 := Lib.hid ((Ext.refl w).alloc (.map #[] 0))
  have m0 := Lib.hid (MapS.made w)
  rw [← hs0.out] at m0 ⊢
  generalize w.alloc (.map #[] 0) = w0 at *
  go_loopw [11] (fun i W => ∃ (j : Nat), j ≤ n ∧ i = Vi j ∧ Hid (knownG (l.take j) (l.drop j) = R) ∧ Hid (MapS W s0 (hereM (l.take j))) ∧ Hid (Ext w W)) (fun i _ => n - (intOf i).toNat)
  case atStart => exact ⟨0, Nat.zero_le _, rfl, hR0, Lib.hid m0.out, Lib.hid x0.out⟩
  case round =>
    clear hR0 m0 x0
    obtain ⟨j, hj, rfl, hrel, hm, hx⟩ := hrel
    by_cases hlt : j < n
    · obtain ⟨b, o, x, hA, hp, d⟩ := (hv.out.ext hx.out).at (k := j) (by rw [hn.out]; exact hlt)
      obtain ⟨c0, c1, c2, c3, c4, c5, c6⟩ := d
      have hi1 : (0 : Int) ≤ (j : Int) := by omega
      have hi2 : (j : Int) < (n : Int) := by omega
      have hr := Lib.hid (show (knownX (l.take j) x && knownG (l.take (j + 1)) (l.drop (j + 1))) = R by rw [← hrel.out, knownG_dropK hp])
      have hs := Lib.hid (show hereM (l.take (j + 1)) = hereM (l.take j) ++ [((x.c, x.k), .bool true)] by rw [take_get hp, here_snoc])
      have hA' := Lib.hid hA
      subst hA
      clear hrel hp hv hn
      generalize l.take j = l0 at *
      by_cases h1 : x.c = 0
      · have h1' : (x.c == 0) = true := by simpa using h1
        have hrf := Lib.hid (show false = R by rw [← hr.out]; simp [knownX, h1])
        clear hr h1
        go_wp2_with fail
        refine (none_any _ _ _).mono ?_
        rintro e w1 ⟨rfl, x1⟩
        have a0 := x1.keep (p := ⟨wr.heap.size, 0, none⟩) (v := Vu x.c) (by simp [go_sem])
        have a1 := x1.keep (p := ⟨wr.heap.size, 1, none⟩) (v := Vu x.k) (by simp [go_sem])
        have a2 := x1.keep (p := ⟨wr.heap.size, 2, none⟩) (v := Vu x.lc) (by simp [go_sem])
        have a3 := x1.keep (p := ⟨wr.heap.size, 3, none⟩) (v := Vu x.lk) (by simp [go_sem])
        have a4 := x1.keep (p := ⟨wr.heap.size, 4, none⟩) (v := Vu x.rc) (by simp [go_sem])
        have a5 := x1.keep (p := ⟨wr.heap.size, 5, none⟩) (v := Vu x.rk) (by simp [go_sem])
        have xe := Lib.hid ((hx.out.alloc _).trans x1)
        have m1 := Lib.hid ((hm.out.ext ((Ext.refl _).alloc _)).ext x1)
        clear x1 c0 c1 c2 c3 c4 c5 c6 hm hx
        generalize wr.heap.size = pa at *
        go_wp2
        go_ret
        exact ⟨ret_bool hrf.out, xe.out⟩
      · have h1' : (x.c == 0) = false := by simpa using h1
        go_wp2_with fail
        refine (none_any _ _ _).mono ?_
        rintro e w1 ⟨rfl, x1⟩
        have a0 := x1.keep (p := ⟨wr.heap.size, 0, none⟩) (v := Vu x.c) (by simp [go_sem])
        have a1 := x1.keep (p := ⟨wr.heap.size, 1, none⟩) (v := Vu x.k) (by simp [go_sem])
        have a2 := x1.keep (p := ⟨wr.heap.size, 2, none⟩) (v := Vu x.lc) (by simp [go_sem])
        have a3 := x1.keep (p := ⟨wr.heap.size, 3, none⟩) (v := Vu x.lk) (by simp [go_sem])
        have a4 := x1.keep (p := ⟨wr.heap.size, 4, none⟩) (v := Vu x.rc) (by simp [go_sem])
        have a5 := x1.keep (p := ⟨wr.heap.size, 5, none⟩) (v := Vu x.rk) (by simp [go_sem])
        have xe := Lib.hid ((hx.out.alloc _).trans x1)
        have m1 := Lib.hid ((hm.out.ext ((Ext.refl _).alloc _)).ext x1)
        clear x1 c0 c1 c2 c3 c4 c5 c6 hm hx
        generalize wr.heap.size = pa at *
        by_cases h2 : hasI l0 (x.c, x.k) = true
        · have hrf := Lib.hid (show false = R by rw [← hr.out]; simp [knownX, iid, h2])
          have hl := m1.out.here x.c x.k
          rw [h2] at hl
          clear hr h1 h2
          go_wp2
          go_ret
          exact ⟨ret_bool hrf.out, xe.out⟩
        · have h2' : hasI l0 (x.c, x.k) = false := by simpa using h2
          have hl := m1.out.here x.c x.k
          rw [h2'] at hl
          clear h2
          by_cases h3 : (decide (x.lc = 0) || hasI l0 (x.lc, x.lk)) = true
          · have hc3 := Lib.hid (noneOrOf_any s0 l0 x.lc x.lk w1 m1.out)
            rw [h3] at hc3
            by_cases h4 : (decide (x.rc = 0) || hasI l0 (x.rc, x.rk)) = true
            · have hrt := Lib.hid (show knownG (l.take (j + 1)) (l.drop (j + 1)) = R by rw [← hr.out]; simp only [knownX, iid, ilf, irt, h2', h3, h4, decide_eq_true h1]; rfl)
              have hlk := Lib.hid (show lkp (hereM l0) (x.c, x.k) = none by rw [here_lkp, h2']; rfl)
              have hc4 := Lib.hid (fun (W : World) (hW : Ext w1 W) => noneOrOf_any s0 l0 x.rc x.rk W (m1.out.ext hW))
              rw [h4] at hc4
              clear hr h1 h2' h3 h4
              go_wp2_with fail
              refine hc3.out.mono ?_
              rintro e w2 ⟨rfl, x2⟩
              have b0 := x2.keep a0
              have b1 := x2.keep a1
              have b4 := x2.keep a4
              have b5 := x2.keep a5
              clear a0 a1 a2 a3 a4 a5
              go_wp2_with fail
              refine (hc4.out _ x2).mono ?_
              rintro e w3 ⟨rfl, x3⟩
              have d0 := x3.keep b0
              have d1 := x3.keep b1
              have m3 := Lib.hid (m1.out.ext (x2.trans x3))
              have xe3 := Lib.hid (xe.out.trans (x2.trans x3))
              clear b0 b1 b4 b5 hl x2 x3 m1 xe
              go_wp2_with (at_mapUpdate; go_loud (refine wpList_store_map _ rfl _ _ _ _ _ rfl Try.underlying52 s0 (hereM l0) rfl m3.out x.c x.k (.bool true) rfl rfl hlk.out ?_); intro w4 m4 g4)
              have hm4 := Lib.hid (show MapS w4 s0 (hereM (l.take (j + 1))) by rw [hs.out]; exact m4)
              have xe4 := Lib.hid (xe3.out.grown (v := .slice (some ⟨s0, 0, none⟩) 0 0) g4 (fun k hk => by injection hk with hk; rw [← hk, hs0.out]; exact Nat.le_refl _))
              clear m4 g4 m3 xe3
              go_wp2
              go_roundw
              case rel => exact ⟨j + 1, by omega, by go_num, hrt, hm4, xe4⟩
              case measure => simp [intOf]; omega
            · have h4' : (decide (x.rc = 0) || hasI l0 (x.rc, x.rk)) = false := by simpa using h4
              have hrf := Lib.hid (show false = R by rw [← hr.out]; simp only [knownX, iid, ilf, irt, h2', h3, h4']; simp)
              have hc4 := Lib.hid (fun (W : World) (hW : Ext w1 W) => noneOrOf_any s0 l0 x.rc x.rk W (m1.out.ext hW))
              rw [h4'] at hc4
              clear hr h1 h2' h3 h4 h4'
              go_wp2_with fail
              refine hc3.out.mono ?_
              rintro e w2 ⟨rfl, x2⟩
              have b0 := x2.keep a0
              have b1 := x2.keep a1
              have b4 := x2.keep a4
              have b5 := x2.keep a5
              clear a0 a1 a2 a3 a4 a5
              go_wp2_with fail
              refine (hc4.out _ x2).mono ?_
              rintro e w3 ⟨rfl, x3⟩
              have xe3 := Lib.hid (xe.out.trans (x2.trans x3))
              clear x2 x3 hl
              go_wp2
              go_ret
              exact ⟨ret_bool hrf.out, xe3.out⟩
          · have h3' : (decide (x.lc = 0) || hasI l0 (x.lc, x.lk)) = false := by simpa using h3
            have hc3 := Lib.hid (noneOrOf_any s0 l0 x.lc x.lk w1 m1.out)
            rw [h3'] at hc3
            have hrf := Lib.hid (show false = R by rw [← hr.out]; simp only [knownX, iid, ilf, irt, h2', h3']; simp)
            clear hr h1 h2' h3 h3'
            go_wp2_with fail
            refine hc3.out.mono ?_
            rintro e w2 ⟨rfl, x2⟩
            have xe3 := Lib.hid (xe.out.trans x2)
            clear x2 hl a0 a1 a2 a3 a4 a5
            go_wp2
            go_ret
            exact ⟨ret_bool hrf.out, xe3.out⟩
    · have hz := Lib.hid (show true = R by rw [← hrel.out, List.drop_eq_nil_of_le (by rw [hn.out]; omega)]; rfl)
      go_wp2
      go_ret
      exact ⟨ret_bool hz.out, hx.out⟩

end Go.Proofs.Ytnocdfmmhnnbeaa
