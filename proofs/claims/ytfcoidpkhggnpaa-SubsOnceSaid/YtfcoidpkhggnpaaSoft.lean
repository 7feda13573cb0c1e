/-
  A region that draws its order, whose operations make memory: what each slot is told to hold stays so as the world grows; no claim stands here.
-/
import Derived.Test.YtfcoidpkhggnpaaBase
import Derived.Orders
namespace Go.Proofs.Ytfcoidpkhggnpaa
open Go.ChangeShapes Go.WideShapes Go.ChangeAt Go.RowKit Go.Sort
set_option linter.unusedVariables false

/-- what a slot holds, told of its value and of the world -/
abbrev Told := Value → World → Prop
/-- a row for each operation: its slot, and what that is told to hold -/
abbrev SoftTab := List (Nat × Told)

/-- the slots that are filled hold what is told; the others are as they were -/
structure SoftAt (tab : SoftTab) (a0 a : Act) (w W : World) (listed : Array Bool) : Prop where
  ext : Ext w W
  defers : a.defers = a0.defers
  size : a.tmps.size = a0.tmps.size
  out : ∀ t, t ∉ tab.map (·.1) → a.tmps[t]? = a0.tmps[t]?
  told : ∀ (k d : Nat) (R : Told), tab[k]? = some (d, R) → listed.getD k false = true → R (a.tmps.getD d undef) W

/-- one operation, whenever it comes up -/
def SoftStep (P : Program) (ops : Array Oper) (tab : SoftTab) (Q : Exit → Act → World → Prop) (a0 : Act) (w : World) (k : Nat) (o : Oper) : Prop :=
  ∀ a W, Ext w W → (∀ t, t ∉ tab.map (·.1) → a.tmps.getD t undef = a0.tmps.getD t undef) → (∀ e ∈ o.after.toList, Region.binds .any e = true → ∀ (d : Nat) (R : Told), tab[e.on]? = some (d, R) → R (a.tmps.getD d undef) W ∧ d < a.tmps.size) →
    ∀ (d : Nat) (R : Told), tab[k]? = some (d, R) → wpOp P ops Q k (fun a' W' => ∃ v, a' = a.put (some d) v ∧ R v W' ∧ Ext W W') a W

theorem tab_ne {tab : SoftTab} (hnd : (tab.map (·.1)).Nodup) {j k d1 d2 : Nat} {R1 R2 : Told} (h1 : tab[j]? = some (d1, R1)) (h2 : tab[k]? = some (d2, R2)) (hjk : j ≠ k) : d1 ≠ d2 := by
  intro e
  have e1 : (tab.map (·.1))[j]? = some d1 := by simp [h1]
  have e2 : (tab.map (·.1))[k]? = some d1 := by simp [h2, e]
  obtain ⟨hj, e1⟩ := List.getElem?_eq_some_iff.1 e1
  obtain ⟨hk, e2⟩ := List.getElem?_eq_some_iff.1 e2
  have hp := List.pairwise_iff_getElem.1 hnd
  rcases Nat.lt_or_gt_of_ne hjk with h | h
  · exact hp j k hj hk h (e1.trans e2.symm)
  · exact hp k j hk hj h (e2.trans e1.symm)

theorem count_set : ∀ (l : List Bool) (i : Nat), l[i]? = some false → (l.set i true).count false + 1 = l.count false
  | [], i, h => by simp at h
  | b :: l, 0, h => by
    obtain rfl : b = false := by simpa using h
    simp
  | b :: l, i + 1, h => by
    have := count_set l i (by simpa using h)
    rw [List.set_cons_succ, List.count_cons, List.count_cons]
    omega

theorem wpAny_soft {P : Program} {l : List Oper} {tab : SoftTab} {Q : Exit → Act → World → Prop} {a0 : Act} {w : World}
    (hlen : tab.length = l.length) (hnd : (tab.map (·.1)).Nodup) (hsz : ∀ d ∈ tab.map (·.1), d < a0.tmps.size)
    (hback : ∀ (k : Nat) (o : Oper), l[k]? = some o → ∀ e ∈ o.after.toList, e.on < k)
    (hmono : ∀ (k d : Nat) (R : Told), tab[k]? = some (d, R) → ∀ (v : Value) (W W' : World), R v W → Ext W W' → R v W')
    (hstep : ∀ (k : Nat) (o : Oper), l[k]? = some o → SoftStep P l.toArray tab Q a0 w k o)
    (hend : ∀ a W, SoftAt tab a0 a w W (Array.replicate l.length true) → Q .normal a W) :
    ∀ (fuel : Nat) (listed : Array Bool) (a : Act) (W : World), listed.size = l.length → listed.toList.count false ≤ fuel → SoftAt tab a0 a w W listed → wpAny P .any l.toArray Q fuel listed a W := by
  have hall : ∀ (listed : Array Bool), listed.size = l.length → Region.ready .any l.toArray listed = [] → listed = Array.replicate l.length true := by
    intro listed hs hr
    have key : ∀ k, k < l.length → listed.getD k false = true := by
      intro k
      induction k using Nat.strongRecOn with
      | ind k ih =>
        intro hk
        rcases hb : listed.getD k false with _ | _
        · exfalso
          have hk' : k < listed.size := by omega
          have hm : k ∈ Region.ready .any l.toArray listed := by
            rw [mem_ready]
            refine ⟨?_, l[k], by simp [hk], fun e he hb' => ?_⟩
            · simp only [Array.getD, hk', dif_pos] at hb ⊢; exact hb
            · have hlt := hback k l[k] (List.getElem?_eq_getElem hk) e (by simpa using he)
              exact ih e.on hlt (by omega)
          rw [hr] at hm
          cases hm
        · rfl
    apply Array.ext
    · simp [hs]
    · intro i h1 h2
      have := key i (by omega)
      simp only [Array.getD, h1, dif_pos] at this
      simpa using this
  intro fuel
  induction fuel with
  | zero =>
    intro listed a W hs hc hI
    have h0 : Region.ready .any l.toArray listed = [] := by
      apply List.eq_nil_iff_forall_not_mem.2
      intro j hj
      obtain ⟨h1, o, ho, _⟩ := mem_ready.1 hj
      have hjl : j < listed.size := by
        have := (Array.getElem?_eq_some_iff.1 ho).1
        simp at this
        omega
      have : false ∈ listed.toList := by
        have e : listed[j] = false := by simpa [Array.getD, hjl] using h1
        rw [← e]; simp
      have := List.count_pos_iff.2 this
      omega
    refine ⟨h0, ?_⟩
    rw [hall listed hs h0] at hI
    exact hend a W hI
  | succ fuel ih =>
    intro listed a W hs hc hI
    refine ⟨fun h0 => by rw [hall listed hs h0] at hI; exact hend a W hI, fun i hi => ?_⟩
    obtain ⟨h1, o, ho, hdep⟩ := mem_ready.1 hi
    have hlo : l[i]? = some o := by simpa using ho
    have hil : i < l.length := (List.getElem?_eq_some_iff.1 hlo).1
    obtain ⟨⟨d, R⟩, htab⟩ : ∃ p, tab[i]? = some p := ⟨tab[i], List.getElem?_eq_getElem (by omega)⟩
    have hdsz : d < a.tmps.size := by rw [hI.size]; exact hsz d (List.mem_map.2 ⟨(d, R), List.mem_of_getElem? htab, rfl⟩)
    have hst := hstep i o hlo a W hI.ext (fun t ht => by simp only [Array.getD_eq_getD_getElem?, hI.out t ht]) (fun e he hb d' R' ht' =>
      ⟨hI.told e.on d' R' ht' (hdep e (by simpa using he) hb), by rw [hI.size]; exact hsz d' (List.mem_map.2 ⟨(d', R'), List.mem_of_getElem? ht', rfl⟩)⟩) d R htab
    refine wpOp_mono (fun a' W' hh => ?_) hst
    obtain ⟨v, rfl, hR, hx⟩ := hh
    have hil' : i < listed.size := by omega
    refine ih _ _ _ (by simp [hs]) ?_ ⟨hI.ext.trans hx, hI.defers, by simp only [Act.put, Array.size_setIfInBounds]; exact hI.size, ?_, ?_⟩
    · have e : listed.toList[i]? = some false := by
        have : listed[i] = false := by simpa [Array.getD, hil'] using h1
        simp [hil', this]
      have := count_set listed.toList i e
      simp only [Array.toList_setIfInBounds]
      omega
    · intro t ht
      have hne : d ≠ t := fun e => ht (e ▸ List.mem_map.2 ⟨(d, R), List.mem_of_getElem? htab, rfl⟩)
      simp only [Act.put]
      rw [Array.getElem?_setIfInBounds_ne hne]
      exact hI.out t ht
    · intro k d2 R2 ht2 hl2
      simp only [Act.put]
      by_cases hki : k = i
      · subst hki
        obtain ⟨rfl, rfl⟩ : d = d2 ∧ R = R2 := by rw [htab] at ht2; injection ht2 with e; injection e with e1 e2; exact ⟨e1, e2⟩
        simp [hdsz]
        exact hR
      · have hne : d ≠ d2 := tab_ne hnd htab ht2 (fun e => hki e.symm)
        have h3 : listed.getD k false = true := by rw [getD_set_ne false (fun e => hki e.symm)] at hl2; exact hl2
        have := hmono k d2 R2 ht2 _ _ _ (hI.told k d2 R2 ht2 h3) hx
        simp only [Array.getD_eq_getD_getElem?, Array.getElem?_setIfInBounds_ne hne]
        simp only [Array.getD_eq_getD_getElem?] at this
        exact this

/-- the region, by what its slots are told to hold -/
theorem wp_region_soft {P : Program} {l : List Oper} (tab : SoftTab) {Q : Exit → Act → World → Prop} {a : Act} {w : World} {id : Nat} (hm : P.follows .mixedOrders = true)
    (hlen : tab.length = l.length) (hnd : (tab.map (·.1)).Nodup) (hsz : ∀ d ∈ tab.map (·.1), d < a.tmps.size)
    (hback : ∀ (k : Nat) (o : Oper), l[k]? = some o → ∀ e ∈ o.after.toList, e.on < k)
    (hmono : ∀ (k d : Nat) (R : Told), tab[k]? = some (d, R) → ∀ (v : Value) (W W' : World), R v W → Ext W W' → R v W')
    (hstep : ∀ (k : Nat) (o : Oper), l[k]? = some o → SoftStep P l.toArray tab Q a w k o)
    (hend : ∀ a' W, SoftAt tab a a' w W (Array.replicate l.length true) → Q .normal a' W) : (Code.region id l.toArray true).wp P Q a w := by
  refine wp_region_any hm ?_
  have := wpAny_soft (P := P) (Q := Q) hlen hnd hsz hback hmono hstep hend l.length (Array.replicate l.length false) a { w with drawn := w.drawn + 1 } (by simp) (by simp) ⟨(Ext.refl w).drew, rfl, rfl, fun _ _ => rfl, fun k d R h1 h2 => by
    exfalso
    simp [Array.getD_eq_getD_getElem?, Array.getElem?_replicate] at h2
    split at h2 <;> simp at h2⟩
  simpa using this

theorem soft_wanted {ops : Array Oper} {o : Oper} {a : Act} {g dg : Nat} {b : Bool} (hg : o.guard = some (g, b)) (hd : (ops[g]?).bind (·.dst) = some dg) (hv : a.tmps.getD dg undef = .bool b ∧ dg < a.tmps.size) : Region.wanted o (yielded ops a.tmps) = true := by
  have h1 : a.tmps[dg]? = some (.bool b) := by
    have := hv.1
    simp only [Array.getD, hv.2, dif_pos] at this
    rw [Array.getElem?_eq_getElem hv.2]
    exact congrArg some this
  simp [Region.wanted, hg, yielded, hd, h1]

/-- an operation that yields a value -/
theorem soft_val {P : Program} {ops : Array Oper} {tab : SoftTab} {Q : Exit → Act → World → Prop} {a0 : Act} {w : World} {k : Nat} {o : Oper} (d : Nat) (R : Told) (hk : ops[k]? = some o) (hd : o.dst = some d) (htab : tab[k]? = some (d, R))
    (h : ∀ (a : Act) (W : World), Ext w W → (∀ t, t ∉ tab.map (·.1) → a.tmps.getD t undef = a0.tmps.getD t undef) → (∀ e ∈ o.after.toList, Region.binds .any e = true → ∀ (d : Nat) (R : Told), tab[e.on]? = some (d, R) → R (a.tmps.getD d undef) W ∧ d < a.tmps.size) →
      Region.wanted o (yielded ops a.tmps) = true ∧ ∃ v W', (execOp a.eval o).run P W = .ok (.value v) W' ∧ R v W' ∧ Ext W W') : SoftStep P ops tab Q a0 w k o := by
  intro a W hx hout hdep d' R' ht
  rw [htab] at ht
  injection ht with ht
  injection ht with e1 e2
  subst e1
  subst e2
  obtain ⟨hw, v, W', hrun, hR, hE⟩ := h a W hx hout hdep
  unfold wpOp
  simp only [hk]
  rw [if_pos hw]
  refine Or.inl ?_
  unfold Oper.wp
  rw [hrun, Oper.upon_value, hd]
  exact ⟨v, rfl, hR, hE⟩
/-- a call -/
theorem soft_call {P : Program} {ops : Array Oper} {tab : SoftTab} {Q : Exit → Act → World → Prop} {a0 : Act} {w : World} {k : Nat} {o : Oper} (d : Nat) (R : Told) (hk : ops[k]? = some o) (hd : o.dst = some d) (htab : tab[k]? = some (d, R))
    (h : ∀ (a : Act) (W : World), Ext w W → (∀ t, t ∉ tab.map (·.1) → a.tmps.getD t undef = a0.tmps.getD t undef) → (∀ e ∈ o.after.toList, Region.binds .any e = true → ∀ (d : Nat) (R : Told), tab[e.on]? = some (d, R) → R (a.tmps.getD d undef) W ∧ d < a.tmps.size) →
      Region.wanted o (yielded ops a.tmps) = true ∧ ∃ f args, (execOp a.eval o).run P W = .ok (.enter f args) W ∧ Calls P f args W fun e W' => ∃ v, e = .returned v ∧ R v W' ∧ Ext W W') : SoftStep P ops tab Q a0 w k o := by
  intro a W hx hout hdep d' R' ht
  rw [htab] at ht
  injection ht with ht
  injection ht with e1 e2
  subst e1
  subst e2
  obtain ⟨hw, f, args, hrun, hc⟩ := h a W hx hout hdep
  unfold wpOp
  simp only [hk]
  rw [if_pos hw]
  refine Or.inl ?_
  unfold Oper.wp
  rw [hrun, Oper.upon_enter]
  refine hc.mono ?_
  rintro e W' ⟨v, rfl, hR, hE⟩
  rw [hd]
  exact ⟨v, rfl, hR, hE⟩

def softBack (l : List Oper) : Bool := (List.range l.length).all fun k => match l[k]? with
  | some o => o.after.toList.all fun e => decide (e.on < k)
  | none => true
theorem softBack_spec {l : List Oper} (h : softBack l = true) : ∀ (k : Nat) (o : Oper), l[k]? = some o → ∀ e ∈ o.after.toList, e.on < k := by
  intro k o ho e he
  have hk : k < l.length := (List.getElem?_eq_some_iff.1 ho).1
  have := List.all_eq_true.1 h k (List.mem_range.2 hk)
  simp only [ho] at this
  simpa using List.all_eq_true.1 this e he
/-- each operation in its turn -/
def SoftAll (P : Program) (ops : Array Oper) (tab : SoftTab) (Q : Exit → Act → World → Prop) (a0 : Act) (w : World) : List Oper → Nat → Prop
  | [], _ => True
  | o :: r, k => SoftStep P ops tab Q a0 w k o ∧ SoftAll P ops tab Q a0 w r (k + 1)
theorem softAll_spec {P : Program} {ops : Array Oper} {tab : SoftTab} {Q : Exit → Act → World → Prop} {a0 : Act} {w : World} : ∀ (l : List Oper) (k : Nat), SoftAll P ops tab Q a0 w l k → ∀ (j : Nat) (o : Oper), l[j]? = some o → SoftStep P ops tab Q a0 w (k + j) o
  | [], _, _, j, o, h => by simp at h
  | x :: l, k, h, 0, o, ho => by
    obtain rfl : x = o := by simpa using ho
    exact h.1
  | x :: l, k, h, j + 1, o, ho => by
    have := softAll_spec l (k + 1) h.2 j o (by simpa using ho)
    rwa [Nat.add_assoc, Nat.add_comm 1 j] at this
/-- what is told stays told -/
def SoftMono (tab : SoftTab) : Prop := ∀ p ∈ tab, ∀ (v : Value) (W W' : World), p.2 v W → Ext W W' → p.2 v W'
theorem wp_soft {P : Program} {l : List Oper} (tab : SoftTab) {Q : Exit → Act → World → Prop} {a : Act} {w : World} {id : Nat} (hm : P.follows .mixedOrders = true)
    (hlen : tab.length = l.length) (hnd : (tab.map (·.1)).Nodup) (hsz : ∀ d ∈ tab.map (·.1), d < a.tmps.size) (hback : softBack l = true) (hmono : SoftMono tab)
    (hend : ∀ a' W, SoftAt tab a a' w W (Array.replicate l.length true) → Q .normal a' W)
    (hstep : SoftAll P l.toArray tab Q a w l 0) : (Code.region id l.toArray true).wp P Q a w :=
  wp_region_soft tab hm hlen hnd hsz (softBack_spec hback) (fun k d R h v W W' => hmono (d, R) (List.mem_of_getElem? h) v W W') (fun k o h => by have := softAll_spec l 0 hstep k o h; rwa [Nat.zero_add] at this) hend

end Go.Proofs.Ytfcoidpkhggnpaa
