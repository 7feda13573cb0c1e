/-
  A region that draws its order: its quiet operations are walked in the order of the text, each in any world; what a call, a builtin or a store leaves is told by a row; no claim stands here.
-/
import Derived.Test.YtfcoidpkhggnpaaBase
import Derived.Orders
import Derived.StillTail
import Derived.StillTailTactics
namespace Go.Proofs.Ytfcoidpkhggnpaa
open Go.ChangeShapes Go.WideShapes Go.ChangeAt Go.RowKit Go.Sort
set_option linter.unusedVariables false
set_option linter.unusedSimpArgs false

/-- quiet operations, one behind the other, in one world -/
def calmUpon (o : Oper) (a : Act) (w : World) (next : Act → Prop) : Result Next → Prop
  | .ok (.value v) w' => w' = w ∧ next (a.put o.dst v)
  | .ok .skip w' => w' = w ∧ next (a.put o.dst undef)
  | _ => False
def calm (P : Program) (o : Oper) (a : Act) (w : World) (next : Act → Prop) : Prop := calmUpon o a w next ((execOp a.eval o).run P w)
def wpCalm (P : Program) (ops : Array Oper) (w : World) (Q : Act → Prop) : List Oper → Act → Prop
  | [], a => Q a
  | o :: r, a => if Region.wanted o (yielded ops a.tmps) then calm P o a w (wpCalm P ops w Q r) else wpCalm P ops w Q r (a.put o.dst undef)
theorem wpCalm_nil {P : Program} {ops : Array Oper} {w : World} {Q : Act → Prop} {a : Act} (h : Q a) : wpCalm P ops w Q [] a := h
theorem wpCalm_step {P : Program} {ops : Array Oper} {w : World} {Q : Act → Prop} {a : Act} {o : Oper} {r : List Oper}
    (h : ∀ K : Act → Prop, (∀ a, wpCalm P ops w Q r a → K a) → if Region.wanted o (yielded ops a.tmps) then calm P o a w K else K (a.put o.dst undef)) : wpCalm P ops w Q (o :: r) a := h _ fun _ h => h
/-- an operation that may make or turn memory -/
def loudUpon (P : Program) (K : Value → World → Prop) : Result Next → Prop
  | .ok (.value v) w' => K v w'
  | .ok .skip w' => K undef w'
  | .ok (.enter f args) w' => Calls P f args w' fun e w'' => ∃ v, e = .returned v ∧ K v w''
  | _ => False
def loud (P : Program) (ops : Array Oper) (o : Oper) (a : Act) (w : World) (K : Value → World → Prop) : Prop :=
  if Region.wanted o (yielded ops a.tmps) then loudUpon P K ((execOp a.eval o).run P w) else K undef w
theorem loud_op {P : Program} {ops : Array Oper} {o : Oper} {a : Act} {w : World} {K : Value → World → Prop} {Q : Exit → Act → World → Prop} {k : Nat} {N : Act → World → Prop} (hk : ops[k]? = some o) (hN : ∀ v W', K v W' → N (a.put o.dst v) W') (h : loud P ops o a w K) : wpOp P ops Q k N a w := by
  unfold wpOp
  simp only [hk]
  unfold loud at h
  split at h
  · rename_i hw
    rw [if_pos hw]
    refine Or.inl ?_
    unfold Oper.wp
    generalize (execOp a.eval o).run P w = r at *
    cases r with
    | ok n w' =>
      cases n <;> simp only [loudUpon] at h <;> simp only [Oper.upon]
      case enter f args => exact h.mono fun e W ⟨v, he, hv⟩ => by subst he; exact hN _ _ hv
      all_goals exact hN _ _ h
    | halt x w' => simp only [loudUpon] at h
  · rename_i hw
    rw [if_neg hw]
    exact hN _ _ h

/-- whom each operation waits for, at last: a number's bits -/
def ancsGo : List Oper → List Nat → List Nat
  | [], acc => acc
  | o :: r, acc => ancsGo r (acc ++ [o.after.toList.foldl (fun m e => if Region.binds .any e then m ||| (1 <<< e.on ||| acc.getD e.on 0) else m) 0])
def ancs (l : List Oper) : List Nat := ancsGo l []
def anc (A : List Nat) (j k : Nat) : Bool := (A.getD k 0).testBit j

theorem testBit_fold (f : Edge → Nat) (b : Edge → Bool) (j : Nat) : ∀ (l : List Edge) (m : Nat), (l.foldl (fun m e => if b e then m ||| f e else m) m).testBit j = true → m.testBit j = true ∨ ∃ e ∈ l, b e = true ∧ (f e).testBit j = true
  | [], m, h => Or.inl h
  | e :: l, m, h => by
    rcases testBit_fold f b j l _ h with h | ⟨e', he, hb, hj⟩
    · simp only at h
      split at h
      · rename_i hb
        rw [Nat.testBit_or, Bool.or_eq_true] at h
        exact h.imp id fun h => ⟨e, by simp, hb, h⟩
      · exact Or.inl h
    · exact Or.inr ⟨e', by simp [he], hb, hj⟩
theorem ancsGo_spec {X : Nat → Nat → Prop} {l0 : List Oper} (hX : ∀ (k : Nat) (o : Oper), l0[k]? = some o → ∀ e ∈ o.after.toList, Region.binds .any e = true → X e.on k ∧ ∀ j, X j e.on → X j k) :
    ∀ (l : List Oper) (acc : List Nat), (∀ i, l[i]? = l0[acc.length + i]?) → (∀ j k, k < acc.length → (acc.getD k 0).testBit j = true → X j k) → ∀ j k, ((ancsGo l acc).getD k 0).testBit j = true → X j k
  | [], acc, _, h, j, k, hj => by
    rcases Nat.lt_or_ge k acc.length with hk | hk
    · exact h j k hk hj
    · rw [ancsGo, List.getD_eq_getElem?_getD, List.getElem?_eq_none hk] at hj; simp at hj
  | o :: l, acc, hl, h, j, k, hj => by
    refine ancsGo_spec hX l _ (fun i => ?_) (fun j k hk hj => ?_) j k hj
    · have := hl (i + 1)
      rw [List.getElem?_cons_succ] at this
      rw [this, List.length_append, List.length_singleton]
      congr 1
      omega
    · rw [List.length_append, List.length_singleton] at hk
      rcases Nat.lt_or_ge k acc.length with hk' | hk'
      · rw [List.getD_eq_getElem?_getD, List.getElem?_append_left hk', ← List.getD_eq_getElem?_getD] at hj
        exact h j k hk' hj
      · obtain rfl : k = acc.length := by omega
        rw [List.getD_eq_getElem?_getD, List.getElem?_append_right (Nat.le_refl _), Nat.sub_self] at hj
        have ho : l0[acc.length]? = some o := by have := hl 0; simpa using this.symm
        rcases testBit_fold _ _ j _ _ hj with hz | ⟨e, he, hb, hbit⟩
        · simp at hz
        · obtain ⟨h1, h2⟩ := hX _ o ho e he hb
          rw [Nat.testBit_or, Bool.or_eq_true] at hbit
          rcases hbit with hbit | hbit
          · rw [Nat.one_shiftLeft, Nat.testBit_two_pow] at hbit
            have : e.on = j := by simpa using hbit
            exact this ▸ h1
          · refine h2 j ?_
            rcases Nat.lt_or_ge e.on acc.length with hk | hk
            · exact h j _ hk hbit
            · rw [List.getD_eq_getElem?_getD, List.getElem?_eq_none hk] at hbit; simp at hbit

/-- a row: the operation k leaves what R tells of its value, of that of d (one that k waits for, or none), and of the world; bef: only till k0 -/
structure SqRow where
  k : Nat
  d : Nat
  is : Option Value
  bef : Bool
  R : Value → Value → World → Prop
structure SqC where
  P : Program
  l : List Oper
  n : Nat
  k0 : Nat
  T : List SqRow
  Rel : World → Prop
  Pre : World → Prop
  S : World → World → Prop
  S0 : World → World → Prop
def SqC.anc (c : SqC) (j k : Nat) : Bool := Go.Proofs.Ytfcoidpkhggnpaa.anc (ancs c.l) j k
def SqC.pre (c : SqC) (k : Nat) : Bool := k == c.k0 || c.anc k c.k0
def SqRow.at (r : SqRow) (ρ : Nat → Value) (W : World) : Prop := r.R (ρ r.k) (ρ r.d) W
/-- what rows are told of, by their places -/
def SqC.fj (c : SqC) (ρ : Nat → Value) (W : World) : List Nat → Prop
  | [] => True
  | i :: J => (match c.T[i]? with | some r => r.at ρ W | none => True) ∧ SqC.fj c ρ W J
def SqC.segB (c : SqC) (J : List Nat) (b : Bool) (k m : Nat) : Bool := decide (k + m ≤ c.n) && (List.range m).all fun i => (!b || c.pre (k + i)) && c.T.all (fun r => r.k != k + i) && J.all fun j => match c.T[j]? with | some r => c.anc r.k (k + i) && (!r.bef || c.pre (k + i)) | none => true
def SqC.rowB (c : SqC) (J : List Nat) (b : Bool) (k i : Nat) : Bool := decide (k < c.n) && (match c.T[i]? with | some r => r.k == k | none => false) && (!b || c.pre k) && J.all fun j => match c.T[j]? with | some r => c.anc r.k k && (!r.bef || c.pre k) | none => true
/-- but for what these fill -/
def blank : List Oper → Act → Act
  | [], a => a
  | o :: r, a => blank r (a.put o.dst undef)
inductive SqW (c : SqC) (ρ : Nat → Value) (E : Act → Prop) : Nat → Act → Prop
  | fin {A : Act} (h : E A) : SqW c ρ E c.n A
  | seg {k : Nat} {A : Act} (m : Nat) (J : List Nat) (b : Bool) (A' : Act) (hB : c.segB J b k m = true) (hw : ∀ W, c.Rel W → (b = true → c.Pre W) → c.fj ρ W J → wpCalm c.P c.l.toArray W (fun a => a = A') ((c.l.drop k).take m) A) (hM : blank ((c.l.drop k).take m) A' = blank ((c.l.drop k).take m) A) (h : SqW c ρ E (k + m) A') : SqW c ρ E k A
  | row {k : Nat} {A : Act} (i : Nat) (J : List Nat) (b : Bool) (r : SqRow) (o : Oper) (hi : c.T[i]? = some r) (ho : c.l[k]? = some o) (hB : c.rowB J b k i = true)
      (hw : ∀ W, c.Rel W → (b = true → c.Pre W) → c.fj ρ W J → loud c.P c.l.toArray o A W fun v W' => (∀ u, r.is = some u → v = u) ∧ r.R v (ρ r.d) W' ∧ (if k = c.k0 then c.Rel W' ∧ c.S0 W W' else c.S W W'))
      (h : SqW c ρ E (k + 1) (A.put o.dst (ρ k))) : SqW c ρ E k A

theorem SqW.mono {c : SqC} {ρ : Nat → Value} {E E' : Act → Prop} (hE : ∀ B, E B → E' B) {k : Nat} {A : Act} (h : SqW c ρ E k A) : SqW c ρ E' k A := by
  induction h with
  | fin h => exact .fin (hE _ h)
  | seg m J b A' hB hw hM h ih => exact .seg m J b A' hB hw hM ih
  | row i J b r o hi ho hB hw h ih => exact .row i J b r o hi ho hB hw ih
def Same (A B : Act) (t : Nat) : Prop := A.tmps[t]? = B.tmps[t]?
theorem eval_same {ops : Array Oper} {A B : Act} {o : Oper} (h : ∀ t ∈ o.looksAt ops, Same A B t) : ∀ x ∈ o.op.operands, A.eval x = B.eval x := by
  intro x hx
  cases x with
  | tmp t =>
    have := h t (List.mem_append_left _ (List.mem_filterMap.2 ⟨.tmp t, by simpa using hx, rfl⟩))
    simp only [Act.eval, Array.getD_eq_getD_getElem?, show A.tmps[t]? = B.tmps[t]? from this]
  | _ => rfl
theorem wanted_same {ops : Array Oper} {A B : Act} {o : Oper} (h : ∀ t ∈ o.looksAt ops, Same A B t) : Region.wanted o (yielded ops A.tmps) = Region.wanted o (yielded ops B.tmps) := by
  unfold Region.wanted
  cases hg : o.guard with
  | none => rfl
  | some p =>
    obtain ⟨g, b⟩ := p
    simp only [yielded]
    cases hd : (ops[g]?).bind (·.dst) with
    | none => rfl
    | some t =>
      have := h t (List.mem_append_right _ (by rw [hg]; simp [hd]))
      simp only [Option.bind_some, show A.tmps[t]? = B.tmps[t]? from this]

/-- one quiet operation, its value in the frame -/
def CalmAt (P : Program) (ops : Array Oper) (o : Oper) (A : Act) (W : World) : Prop :=
  if Region.wanted o (yielded ops A.tmps) then calm P o A W (fun a => ∀ d, o.dst = some d → Same a A d) else ∀ d, o.dst = some d → Same (A.put o.dst undef) A d
theorem CalmAt.same {P : Program} {ops : Array Oper} {o : Oper} {A B : Act} {W : World} (hs : ∀ cs b, o.op ≠ .select cs b) (hz : A.tmps.size = B.tmps.size) (h : ∀ t ∈ o.looksAt ops, Same A B t) (hA : CalmAt P ops o A W) (hB : CalmAt P ops o B W) : ∀ d, o.dst = some d → Same A B d := by
  intro d hd
  have he : execOp A.eval o = execOp B.eval o := execOp_congr o hs (eval_same h)
  have put : ∀ v, Same (A.put (some d) v) (B.put (some d) v) d := fun v => by
    simp only [Same, Act.put, Array.getElem?_setIfInBounds_self, hz]
  unfold CalmAt at hA hB
  rw [wanted_same h] at hA
  split at hA
  · rename_i hw
    rw [if_pos hw] at hB
    unfold calm at hA hB
    rw [he] at hA
    generalize (execOp B.eval o).run P W = r at *
    cases r with
    | ok n w' =>
      cases n <;> simp only [calmUpon] at hA hB
      · have h1 := hA.2 d hd; have h2 := hB.2 d hd; rw [hd] at h1 h2; exact h1.symm.trans ((put _).trans h2)
      · have h1 := hA.2 d hd; have h2 := hB.2 d hd; rw [hd] at h1 h2; exact h1.symm.trans ((put _).trans h2)
    | halt x w' => simp only [calmUpon] at hA
  · rename_i hw
    rw [if_neg hw] at hB
    have h1 := hA d hd; have h2 := hB d hd; rw [hd] at h1 h2; exact h1.symm.trans ((put _).trans h2)
/-- run at a like frame -/
theorem CalmAt.to {P : Program} {ops : Array Oper} {o : Oper} {A B : Act} {W : World} (hs : ∀ cs b, o.op ≠ .select cs b) (hz : A.tmps.size = B.tmps.size) (h : ∀ t ∈ o.looksAt ops, Same A B t) (hd : ∀ d, o.dst = some d → Same A B d) (hA : CalmAt P ops o A W) : CalmAt P ops o B W := by
  have he : execOp A.eval o = execOp B.eval o := execOp_congr o hs (eval_same h)
  have put : ∀ d v, o.dst = some d → Same (A.put o.dst v) A d → Same (B.put o.dst v) B d := fun d v e h1 => by
    rw [e] at h1 ⊢
    simp only [Same, Act.put, Array.getElem?_setIfInBounds_self, hz] at h1 ⊢
    exact h1.trans (hd d e)
  unfold CalmAt at hA ⊢
  rw [wanted_same h] at hA
  split at hA
  · rename_i hw
    rw [if_pos hw]
    unfold calm at hA ⊢
    rw [he] at hA
    generalize (execOp B.eval o).run P W = r at *
    cases r with
    | ok n w' =>
      cases n <;> simp only [calmUpon] at hA ⊢
      · exact ⟨hA.1, fun d e => put d _ e (hA.2 d e)⟩
      · exact ⟨hA.1, fun d e => put d _ e (hA.2 d e)⟩
    | halt x w' => simp only [calmUpon] at hA
  · rename_i hw
    rw [if_neg hw]
    exact fun d e => put d _ e (hA d e)

theorem blank_same : ∀ (l : List Oper) (A B : Act), blank l A = blank l B → A.tmps.size = B.tmps.size ∧ A.defers = B.defers ∧ ∀ t, (∀ o ∈ l, o.dst ≠ some t) → Same A B t
  | [], A, B, h => by cases h; exact ⟨rfl, rfl, fun _ _ => rfl⟩
  | o :: l, A, B, h => by
    obtain ⟨h1, h2, h3⟩ := blank_same l _ _ h
    cases hd : o.dst with
    | none => rw [hd] at h1 h2 h3; exact ⟨h1, h2, fun t ht => h3 t fun o' ho' => ht o' (by simp [ho'])⟩
    | some d =>
      rw [hd] at h1 h2 h3
      simp only [Act.put, Array.size_setIfInBounds] at h1 h2
      refine ⟨h1, h2, fun t ht => ?_⟩
      have hne : d ≠ t := fun e => ht o (by simp) (by rw [hd, e])
      have := h3 t fun o' ho' => ht o' (by simp [ho'])
      simpa only [Same, Act.put, Array.getElem?_setIfInBounds_ne hne] using this
theorem putB_same {A : Act} {o : Option Tmp} {v : Value} {t : Nat} (h : o ≠ some t) : Same (A.put o v) A t := by
  cases o with
  | none => rfl
  | some d =>
    have hne : d ≠ t := fun e => h (by rw [e])
    simp only [Same, Act.put, Array.getElem?_setIfInBounds_ne hne]
theorem put_size (A : Act) (o : Option Tmp) (v : Value) : (A.put o v).tmps.size = A.tmps.size := by cases o <;> simp [Act.put]
theorem put_defers (A : Act) (o : Option Tmp) (v : Value) : (A.put o v).defers = A.defers := by cases o <;> rfl

/-- the region's form -/
structure SqF (l : List Oper) (n sz : Nat) : Prop where
  sel : ∀ (k : Nat) (o : Oper), k < n → l[k]? = some o → ∀ cs b, o.op ≠ .select cs b
  nd : ∀ (i j : Nat) (x y : Oper) (d : Nat), i < n → j < n → l[i]? = some x → l[j]? = some y → x.dst = some d → y.dst = some d → i = j
  looks : ∀ (k : Nat) (o : Oper), k < n → l[k]? = some o → ∀ t ∈ o.looksAt l.toArray, (∀ (i : Nat) (x : Oper), i < n → l[i]? = some x → x.dst ≠ some t) ∨ ∃ e ∈ o.after.toList, Region.binds .any e = true ∧ e.on < k ∧ ∃ x, l[e.on]? = some x ∧ x.dst = some t
  size : ∀ (k : Nat) (o : Oper) (d : Nat), k < n → l[k]? = some o → o.dst = some d → d < sz
  back : ∀ (k : Nat) (o : Oper), k < n → l[k]? = some o → ∀ e ∈ o.after.toList, Region.binds .any e = true → e.on < k
theorem SqF.early {l : List Oper} {n sz : Nat} (F : SqF l n sz) {k : Nat} {o : Oper} (hk : k < n) (ho : l[k]? = some o) : ∀ t ∈ o.looksAt l.toArray, ∀ (j : Nat) (x : Oper), k ≤ j → j < n → l[j]? = some x → x.dst ≠ some t := by
  intro t ht j x hkj hj hx hd
  rcases F.looks k o hk ho t ht with h | ⟨e, he, hb, hlt, y, hy, hyd⟩
  · exact h j x hj hx hd
  · have := F.nd _ _ _ _ _ (by omega) hj hy hx hyd hd
    omega

/-- a run of quiet operations -/
theorem calm_spec {P : Program} {l : List Oper} {n sz : Nat} {W : World} (F : SqF l n sz) (hln : n ≤ l.length) : ∀ (m k : Nat) (A A' : Act), k + m ≤ n → A.tmps.size = sz → wpCalm P l.toArray W (fun a => a = A') ((l.drop k).take m) A →
    A'.tmps.size = A.tmps.size ∧ (∀ t, (∀ (j : Nat) (o : Oper), k ≤ j → j < k + m → l[j]? = some o → o.dst ≠ some t) → Same A' A t) ∧ ∀ (j : Nat) (o : Oper), k ≤ j → j < k + m → l[j]? = some o → CalmAt P l.toArray o A' W
  | 0, k, A, A', hm, hz, h => by
    rw [List.take_zero] at h
    obtain rfl : A = A' := h
    exact ⟨rfl, fun _ _ => rfl, fun j o h1 h2 _ => by omega⟩
  | m + 1, k, A, A', hm, hz, h => by
    have hk : k < l.length := by omega
    have hko : l[k]? = some l[k] := List.getElem?_eq_getElem hk
    rw [List.drop_eq_getElem_cons hk, List.take_succ_cons] at h
    generalize l[k] = o at *
    have main : ∀ v, wpCalm P l.toArray W (fun a => a = A') ((l.drop (k + 1)).take m) (A.put o.dst v) → A'.tmps.size = A.tmps.size ∧ (∀ t, (∀ (j : Nat) (x : Oper), k ≤ j → j < k + (m + 1) → l[j]? = some x → x.dst ≠ some t) → Same A' A t) ∧ (∀ d, o.dst = some d → Same (A'.put o.dst v) A' d) ∧ (∀ t ∈ o.looksAt l.toArray, Same A A' t) ∧ ∀ (j : Nat) (x : Oper), k + 1 ≤ j → j < k + (m + 1) → l[j]? = some x → CalmAt P l.toArray x A' W := by
      intro v hv
      obtain ⟨h1, h2, h3⟩ := calm_spec F hln m (k + 1) _ A' (by omega) (by rw [put_size]; exact hz) hv
      rw [put_size] at h1
      have out : ∀ t, (∀ (j : Nat) (x : Oper), k ≤ j → j < k + (m + 1) → l[j]? = some x → x.dst ≠ some t) → Same A' A t := fun t ht =>
        (h2 t fun j x g1 g2 gx => ht j x (by omega) (by omega) gx).trans (putB_same (ht k o (Nat.le_refl _) (by omega) hko))
      refine ⟨h1, out, fun d hd => ?_, fun t ht => ?_, fun j x g1 g2 gx => h3 j x g1 (by omega) gx⟩
      · have e1 := h2 d fun j x g1 g2 gx gd => by have := F.nd _ _ _ _ _ (by omega) (by omega) hko gx hd gd; omega
        rw [hd] at e1 ⊢
        have hds := F.size k o d (by omega) hko hd
        simp only [Same, Act.put, Array.getElem?_setIfInBounds_self] at e1 ⊢
        rw [e1, h1]
      · exact (out t fun j x g1 g2 gx => F.early (by omega) hko t ht j x g1 (by omega) gx).symm
    have fin : (∃ v, wpCalm P l.toArray W (fun a => a = A') ((l.drop (k + 1)).take m) (A.put o.dst v) ∧ ((∀ t ∈ o.looksAt l.toArray, Same A A' t) → (∀ d, o.dst = some d → Same (A'.put o.dst v) A' d) → CalmAt P l.toArray o A' W)) := by
      unfold wpCalm at h
      split at h
      · rename_i hw
        unfold calm at h
        generalize hr : (execOp A.eval o).run P W = r at h
        have go : ∀ v, ((execOp A.eval o).run P W = .ok (.value v) W ∨ (execOp A.eval o).run P W = .ok .skip W ∧ v = undef) → (∀ t ∈ o.looksAt l.toArray, Same A A' t) → (∀ d, o.dst = some d → Same (A'.put o.dst v) A' d) → CalmAt P l.toArray o A' W := by
          intro v hv hl hd
          unfold CalmAt
          rw [← wanted_same hl, if_pos hw]
          unfold calm
          rw [← execOp_congr o (F.sel k o (by omega) hko) (eval_same hl)]
          rcases hv with hv | ⟨hv, rfl⟩
          · rw [hv]; exact ⟨rfl, hd⟩
          · rw [hv]; exact ⟨rfl, hd⟩
        cases r with
        | ok x w' =>
          cases x <;> simp only [calmUpon] at h
          · obtain ⟨rfl, h⟩ := h; exact ⟨_, h, go _ (Or.inl hr)⟩
          · obtain ⟨rfl, h⟩ := h; exact ⟨_, h, go _ (Or.inr ⟨hr, rfl⟩)⟩
        | halt x w' => simp only [calmUpon] at h
      · rename_i hw
        refine ⟨undef, h, fun hl hd => ?_⟩
        unfold CalmAt
        rw [← wanted_same hl, if_neg hw]
        exact hd
    obtain ⟨v, hv, hc⟩ := fin
    obtain ⟨h1, h2, h3, h4, h5⟩ := main v hv
    refine ⟨h1, h2, fun j x g1 g2 gx => ?_⟩
    rcases Nat.lt_or_ge k j with g | g
    · exact h5 j x g g2 gx
    · obtain rfl : j = k := by omega
      obtain rfl : x = o := by rw [hko] at gx; exact (Option.some.inj gx).symm
      exact hc h4 h3

def SqC.facts (c : SqC) (ρ : Nat → Value) (k : Nat) (W : World) : Prop := ∀ r ∈ c.T, c.anc r.k k = true → (r.bef = true → c.pre k = true) → r.at ρ W
def SqC.leaves (c : SqC) (ρ : Nat → Value) (r : SqRow) (W : World) (v : Value) (W' : World) : Prop := (∀ u, r.is = some u → v = u) ∧ r.R v (ρ r.d) W' ∧ (if r.k = c.k0 then c.Rel W' ∧ c.S0 W W' else c.S W W')
def SqC.ok (c : SqC) (ρ : Nat → Value) (A : Act) (k : Nat) (o : Oper) : Prop :=
  ((∀ r ∈ c.T, r.k ≠ k) ∧ ∀ W, c.Rel W → (c.pre k = true → c.Pre W) → c.facts ρ k W → CalmAt c.P c.l.toArray o A W) ∨
  ∃ r ∈ c.T, r.k = k ∧ (∀ d, o.dst = some d → A.tmps[d]? = some (ρ k)) ∧ ∀ W, c.Rel W → (c.pre k = true → c.Pre W) → c.facts ρ k W → loud c.P c.l.toArray o A W (c.leaves ρ r W)
theorem loud_to {P : Program} {ops : Array Oper} {o : Oper} {A B : Act} {W : World} {K : Value → World → Prop} (hs : ∀ cs b, o.op ≠ .select cs b) (h : ∀ t ∈ o.looksAt ops, Same A B t) (hA : loud P ops o A W K) : loud P ops o B W K := by
  unfold loud at hA ⊢
  rw [← wanted_same h, ← execOp_congr o hs (eval_same h)]
  exact hA
theorem SqC.ok.to {c : SqC} {ρ : Nat → Value} {A B : Act} {k : Nat} {o : Oper} (hs : ∀ cs b, o.op ≠ .select cs b) (hz : A.tmps.size = B.tmps.size) (h : ∀ t ∈ o.looksAt c.l.toArray, Same A B t) (hd : ∀ d, o.dst = some d → Same A B d) (hA : c.ok ρ A k o) : c.ok ρ B k o := by
  rcases hA with ⟨h1, h2⟩ | ⟨r, hr, hk, hv, h2⟩
  · exact Or.inl ⟨h1, fun W g1 g2 g3 => (h2 W g1 g2 g3).to hs hz h hd⟩
  · exact Or.inr ⟨r, hr, hk, fun d e => (hd d e).symm.trans (hv d e), fun W g1 g2 g3 => loud_to hs h (h2 W g1 g2 g3)⟩

theorem or_imp_true {a : Bool} {p : Bool} (h : (!a || p) = true) (ha : a = true) : p = true := by cases a <;> simp_all
theorem fj_of {c : SqC} {ρ : Nat → Value} {W : World} {k : Nat} (hf : c.facts ρ k W) : ∀ (J : List Nat), (J.all fun j => match c.T[j]? with | some r => c.anc r.k k && (!r.bef || c.pre k) | none => true) = true → c.fj ρ W J
  | [], _ => trivial
  | i :: J, h => by
    rw [List.all_cons, Bool.and_eq_true] at h
    refine ⟨?_, fj_of hf J h.2⟩
    have := h.1
    cases hT : c.T[i]? with
    | none => trivial
    | some r =>
      rw [hT] at this
      simp only [Bool.and_eq_true] at this
      exact hf r (List.mem_of_getElem? hT) this.1 (or_imp_true this.2)
theorem SqW.spec {c : SqC} {sz : Nat} (F : SqF c.l c.n sz) (hln : c.n ≤ c.l.length) {ρ : Nat → Value} {E : Act → Prop} : ∀ {k : Nat} {A : Act}, SqW c ρ E k A → A.tmps.size = sz →
    ∃ B, E B ∧ B.tmps.size = A.tmps.size ∧ B.defers = A.defers ∧ (∀ t, (∀ (j : Nat) (o : Oper), k ≤ j → j < c.n → c.l[j]? = some o → o.dst ≠ some t) → Same B A t) ∧ ∀ (j : Nat) (o : Oper), k ≤ j → j < c.n → c.l[j]? = some o → c.ok ρ B j o := by
  intro k A h
  induction h with
  | fin h => exact fun _ => ⟨_, h, rfl, rfl, fun _ _ => rfl, fun j o g1 g2 _ => by omega⟩
  | @seg k A m J b A' hB hw hM h ih =>
    intro hz
    unfold SqC.segB at hB
    rw [Bool.and_eq_true, decide_eq_true_eq] at hB
    obtain ⟨hkm, hB⟩ := hB
    obtain ⟨z1, z2, z3⟩ := blank_same _ _ _ hM
    obtain ⟨B, b1, b2, b3, b4, b5⟩ := ih (by rw [z1]; exact hz)
    have inl : ∀ o ∈ (c.l.drop k).take m, ∃ j, k ≤ j ∧ j < k + m ∧ c.l[j]? = some o := fun o ho => by
      obtain ⟨i, hi, e⟩ := List.mem_take_iff_getElem.1 ho
      refine ⟨k + i, by omega, by omega, ?_⟩
      rw [← e, List.getElem_drop, List.getElem?_eq_getElem]
    refine ⟨B, b1, b2.trans z1, b3.trans z2, ?_, ?_⟩
    · intro t ht
      refine (b4 t fun j o g1 g2 go => ht j o (by omega) g2 go).trans (z3 t fun o ho => ?_)
      obtain ⟨j, g1, g2, g3⟩ := inl o ho
      exact ht j o g1 (by omega) g3
    · intro j o g1 g2 go
      rcases Nat.lt_or_ge j (k + m) with g | g
      · have hb := List.all_eq_true.1 hB (j - k) (List.mem_range.2 (by omega))
        rw [show k + (j - k) = j by omega] at hb
        simp only [Bool.and_eq_true] at hb
        obtain ⟨⟨hb1, hb2⟩, hb3⟩ := hb
        have looks : ∀ t ∈ o.looksAt c.l.toArray, Same A' B t := fun t ht => (b4 t fun i x e1 e2 e3 => F.early g2 go t ht i x (by omega) e2 e3).symm
        refine Or.inl ⟨fun r hr e => ?_, fun W w1 w2 w3 => ?_⟩
        · have := List.all_eq_true.1 hb2 r hr
          simp [e] at this
        · have hc := calm_spec F hln m k A A' hkm hz (hw W w1 (fun hbt => w2 (or_imp_true hb1 hbt)) (fj_of w3 J hb3))
          refine (hc.2.2 j o g1 g go).to (F.sel j o g2 go) b2.symm looks ?_
          intro d hd
          refine (b4 d fun i x e1 e2 e3 e4 => ?_).symm
          have := F.nd _ _ _ _ _ g2 e2 go e3 hd e4
          omega
      · exact b5 j o g g2 go
  | @row k A i J b r o hi ho hB hw h ih =>
    intro hz
    unfold SqC.rowB at hB
    simp only [Bool.and_eq_true, decide_eq_true_eq] at hB
    obtain ⟨⟨⟨hkn, hrk⟩, hb1⟩, hb3⟩ := hB
    rw [hi] at hrk
    have hrk : r.k = k := by simpa using hrk
    obtain ⟨B, b1, b2, b3, b4, b5⟩ := ih (by rw [put_size]; exact hz)
    rw [put_size] at b2
    have out : ∀ t, (∀ (j : Nat) (x : Oper), k ≤ j → j < c.n → c.l[j]? = some x → x.dst ≠ some t) → Same B A t := fun t ht =>
      (b4 t fun j x g1 g2 gx => ht j x (by omega) g2 gx).trans (putB_same (ht k o (Nat.le_refl _) hkn ho))
    refine ⟨B, b1, b2, b3.trans (put_defers ..), out, ?_⟩
    intro j x g1 g2 gx
    rcases Nat.lt_or_ge k j with g | g
    · exact b5 j x g g2 gx
    · obtain rfl : j = k := by omega
      obtain rfl : x = o := by rw [ho] at gx; exact (Option.some.inj gx).symm
      have looks : ∀ t ∈ x.looksAt c.l.toArray, Same A B t := fun t ht => (out t fun i y e1 e2 e3 => F.early g2 gx t ht i y e1 e2 e3).symm
      refine Or.inr ⟨r, List.mem_of_getElem? hi, hrk, fun d hd => ?_, fun W w1 w2 w3 => ?_⟩
      · have e1 := b4 d fun i y e1 e2 e3 e4 => by
          have := F.nd _ _ _ _ _ g2 e2 gx e3 hd e4
          omega
        have hds := F.size j x d g2 gx hd
        rw [hd] at e1
        simp only [Same, Act.put, Array.getElem?_setIfInBounds_self] at e1
        rw [e1, if_pos (by omega)]
      · refine loud_to (F.sel j x g2 gx) looks ?_
        have := hw W w1 (fun hbt => w2 (or_imp_true hb1 hbt)) (fj_of w3 J hb3)
        unfold SqC.leaves
        rw [hrk]
        exact this

def SqC.Is (c : SqC) (ρ : Nat → Value) : Prop := ∀ r ∈ c.T, ∀ u, r.is = some u → ρ r.k = u
structure SqFin (c : SqC) (E : (Nat → Value) → Act → Prop) (a0 : Act) (ρ : Nat → Value) (B : Act) : Prop where
  fin : E ρ B
  size : B.tmps.size = a0.tmps.size
  defers : B.defers = a0.defers
  out : ∀ t, (∀ (j : Nat) (o : Oper), j < c.n → c.l[j]? = some o → o.dst ≠ some t) → Same B a0 t
  ok : ∀ (j : Nat) (o : Oper), j < c.n → c.l[j]? = some o → c.ok ρ B j o
structure SqT (c : SqC) : Prop where
  lt : ∀ r ∈ c.T, r.k < c.n
  one : ∀ r ∈ c.T, ∀ r' ∈ c.T, r.k = r'.k → r = r'
  dep : ∀ r ∈ c.T, c.n ≤ r.d ∨ c.anc r.d r.k = true
  self : ∀ r ∈ c.T, r.d ≠ r.k
  S : ∀ r ∈ c.T, ∀ x y W W', r.R x y W → c.S W W' → r.R x y W'
  S0 : ∀ r ∈ c.T, r.bef = false → r.k ≠ c.k0 → ∀ x y W W', r.R x y W → c.S0 W W' → r.R x y W'
  rel : ∀ W W', c.Rel W → c.S W W' → c.Rel W'
  pre : ∀ W W', c.Pre W → c.S W W' → c.Pre W'
structure SqAt (c : SqC) (E : (Nat → Value) → Act → Prop) (a0 a : Act) (W : World) (listed : Array Bool) (ρ : Nat → Value) (B : Act) : Prop where
  is : c.Is ρ
  fin : SqFin c E a0 ρ B
  facts : ∀ r ∈ c.T, listed.getD r.k false = true → (r.bef = true → listed.getD c.k0 false = false) → r.at ρ W
  out : ∀ t, (∀ (j : Nat) (o : Oper), j < c.n → c.l[j]? = some o → o.dst ≠ some t) → Same a a0 t
  told : ∀ (j : Nat) (o : Oper) (d : Nat), j < c.n → c.l[j]? = some o → listed.getD j false = true → o.dst = some d → Same a B d
  rel : c.Rel W
  pre : listed.getD c.k0 false = false → c.Pre W
  size : a.tmps.size = a0.tmps.size
  defers : a.defers = a0.defers
  wit : ∀ j, j < c.n → listed.getD j false = true → ∃ Wj, c.Rel Wj ∧ (c.pre j = true → c.Pre Wj) ∧ c.facts ρ j Wj
theorem anc_listed {c : SqC} {n : Nat} {listed : Array Bool} (inv : HeadInv .any c.l.toArray n listed) {j k : Nat} (h : c.anc j k = true) (hk : ∀ o, c.l[k]? = some o → ∀ e ∈ o.after.toList, Region.binds .any e = true → listed.getD e.on false = true) : listed.getD j false = true := by
  have key := ancsGo_spec (X := fun j k => (∀ o, c.l[k]? = some o → ∀ e ∈ o.after.toList, Region.binds .any e = true → listed.getD e.on false = true) → listed.getD j false = true) (l0 := c.l) (fun k o ho e he hb => ⟨fun g => g o ho e he hb, fun j hj g => hj fun o' ho' e' he' hb' => inv.closed e.on o' (by simpa using ho') (g o ho e he hb) e' (by simpa using he') hb'⟩) c.l [] (fun i => by simp) (fun j k hk => by simp at hk)
  exact key j k h hk
theorem calm_op {P : Program} {ops : Array Oper} {o : Oper} {A a : Act} {W : World} {k : Nat} {Q : Exit → Act → World → Prop} {N : Act → World → Prop} (hk : ops[k]? = some o) (hs : ∀ cs b, o.op ≠ .select cs b) (h : ∀ t ∈ o.looksAt ops, Same A a t) (hA : CalmAt P ops o A W) (hN : ∀ v, (∀ d, o.dst = some d → Same (A.put o.dst v) A d) → N (a.put o.dst v) W) : wpOp P ops Q k N a W := by
  unfold wpOp
  simp only [hk]
  unfold CalmAt at hA
  rw [wanted_same h] at hA
  split at hA
  · rename_i hw
    rw [if_pos hw]
    refine Or.inl ?_
    unfold Oper.wp
    unfold calm at hA
    rw [execOp_congr o hs (eval_same h)] at hA
    generalize (execOp a.eval o).run P W = r at *
    cases r with
    | ok x w' =>
      cases x <;> simp only [calmUpon] at hA <;> simp only [Oper.upon]
      · obtain ⟨rfl, hA⟩ := hA; exact hN _ hA
      · obtain ⟨rfl, hA⟩ := hA; exact hN _ hA
    | halt x w' => simp only [calmUpon] at hA
  · rename_i hw
    rw [if_neg hw]
    exact hN _ hA

theorem SqAt.next {c : SqC} {sz : Nat} (F : SqF c.l c.n sz) (HT : SqT c) {E : (Nat → Value) → Act → Prop} {a0 : Act} (hz : a0.tmps.size = sz) (G : ∀ ρ, c.Is ρ → ∃ B, SqFin c E a0 ρ B) {Q : Exit → Act → World → Prop} {listed : Array Bool} {a : Act} {W : World} {ρ : Nat → Value} {B : Act} (inv : HeadInv .any c.l.toArray c.n listed)
    (h : SqAt c E a0 a W listed ρ B) {i : Nat} (hin : i < c.n) (hun : listed.getD i true = false) {o : Oper} (ho : c.l[i]? = some o) (hdep : ∀ e ∈ o.after.toList, Region.binds .any e = true → listed.getD e.on false = true) {N : Act → World → Prop}
    (hN : ∀ a' W' ρ' B', SqAt c E a0 a' W' (listed.setIfInBounds i true) ρ' B' → N a' W') : wpOp c.P c.l.toArray Q i N a W := by
  have hdep' : ∀ o', c.l[i]? = some o' → ∀ e ∈ o'.after.toList, Region.binds .any e = true → listed.getD e.on false = true := fun o' h' => by rw [ho] at h'; obtain rfl := Option.some.inj h'; exact hdep
  have hun' := getD_both hun
  have dst_i : ∀ j x d, j < c.n → c.l[j]? = some x → listed.getD j false = true → x.dst = some d → o.dst ≠ some d := fun j x d g gx gl gd e => by
    have := F.nd _ _ _ _ _ hin g ho gx e gd
    rw [this, gl] at hun'; cases hun'
  have looks : ∀ t ∈ o.looksAt c.l.toArray, Same B a t := fun t ht => by
    rcases F.looks i o hin ho t ht with g | ⟨e, he, hb, hlt, x, hx, hxd⟩
    · exact (h.fin.out t g).trans (h.out t g).symm
    · exact (h.told e.on x t (by omega) hx (hdep e he hb) hxd).symm
  have k0un : c.pre i = true → listed.getD c.k0 false = false := fun hp => by
    unfold SqC.pre at hp
    rw [Bool.or_eq_true, beq_iff_eq] at hp
    rcases hp with rfl | hp
    · exact hun'
    · cases hl : listed.getD c.k0 false with
      | false => rfl
      | true =>
        have := anc_listed inv hp fun o' h' e he hb => inv.closed c.k0 o' (by simpa using h') hl e (by simpa using he) hb
        rw [hun'] at this; cases this
  have ne_i : ∀ j, listed.getD j false = true → j ≠ i := fun j g e => by rw [e, hun'] at g; cases g
  have hfacts : c.facts ρ i W := fun r hr ha hb => h.facts r hr (anc_listed inv ha hdep') fun e => k0un (hb e)
  have hpre : c.pre i = true → c.Pre W := fun hp => h.pre (k0un hp)
  have hset : ∀ j, (listed.setIfInBounds i true).getD j false = true → j = i ∨ listed.getD j false = true := fun j g => by
    by_cases e : i = j
    · exact Or.inl e.symm
    · rw [getD_set_ne false e] at g; exact Or.inr g
  have hset0 : (listed.setIfInBounds i true).getD c.k0 false = false → listed.getD c.k0 false = false ∧ i ≠ c.k0 := fun g => by
    by_cases e : i = c.k0
    · exfalso
      have hil : i < listed.size := by
        rcases Nat.lt_or_ge i listed.size with h | h
        · exact h
        · simp [Array.getElem?_eq_none h] at hun
      rw [← e] at g
      simp [hil] at g
    · rw [getD_set_ne false e] at g; exact ⟨g, e⟩
  have isz : ∀ v, (a.put o.dst v).tmps.size = a0.tmps.size := fun v => by rw [put_size]; exact h.size
  have outs : ∀ v t, (∀ (j : Nat) (x : Oper), j < c.n → c.l[j]? = some x → x.dst ≠ some t) → Same (a.put o.dst v) a0 t := fun v t ht => (putB_same (ht i o hin ho)).trans (h.out t ht)
  rcases h.fin.ok i o hin ho with ⟨h1, h2⟩ | ⟨r, hr, hrk, hv, h2⟩
  · refine calm_op (by simpa using ho) (F.sel i o hin ho) looks (h2 W h.rel hpre hfacts) fun v hvd => hN _ _ ρ B ⟨h.is, h.fin, fun r hr hl hb => ?_, outs v, fun j x d g gx gl gd => ?_, h.rel, fun g => h.pre (hset0 g).1, isz v, by rw [put_defers]; exact h.defers, fun j g gl => ?_⟩
    · rcases hset _ hl with e | e
      · exact absurd e (h1 r hr)
      · exact h.facts r hr e fun e' => (hset0 (hb e')).1
    · rcases hset _ gl with e | e
      · subst e
        obtain rfl : x = o := by rw [ho] at gx; exact (Option.some.inj gx).symm
        have e1 := hvd d gd
        rw [gd] at e1 ⊢
        refine Eq.trans ?_ e1
        simp only [Act.put, Array.getElem?_setIfInBounds_self, h.size, h.fin.size]
      · exact (putB_same (dst_i j x d g gx e gd)).trans (h.told j x d g gx e gd)
    · rcases hset _ gl with e | e
      · subst e; exact ⟨W, h.rel, hpre, hfacts⟩
      · exact h.wit j g e
  · refine loud_op (by simpa using ho) (fun v W' hl => ?_) (loud_to (F.sel i o hin ho) looks (h2 W h.rel hpre hfacts))
    obtain ⟨l1, l2, l3⟩ := hl
    obtain ⟨ρ', hρ'⟩ : ∃ ρ' : Nat → Value, ρ' = fun j => if j = i then v else ρ j := ⟨_, rfl⟩
    have ρi : ρ' i = v := by rw [hρ']; simp
    have ρj : ∀ j, j ≠ i → ρ' j = ρ j := fun j e => by rw [hρ']; simp [e]
    have hIs : c.Is ρ' := fun r' hr' u hu => by
      by_cases e : r'.k = i
      · obtain rfl := HT.one r' hr' r hr (e.trans hrk.symm)
        rw [e, ρi]; exact l1 u hu
      · rw [ρj _ e]; exact h.is r' hr' u hu
    obtain ⟨B', hB'⟩ := G ρ' hIs
    have atE : ∀ r' ∈ c.T, listed.getD r'.k false = true → ∀ W, r'.at ρ W → r'.at ρ' W := fun r' hr' hl W g => by
      unfold SqRow.at at g ⊢
      rw [ρj _ (ne_i _ hl), ρj r'.d]
      · exact g
      · rcases HT.dep r' hr' with e | e
        · omega
        · refine ne_i _ (anc_listed inv e fun o' h' e' he' hb' => inv.closed r'.k o' (by simpa using h') hl e' (by simpa using he') hb')
    have ancL : ∀ j k, listed.getD j false = true → c.anc k j = true → listed.getD k false = true := fun j k gl ga => anc_listed inv ga fun o' h' e' he' hb' => inv.closed j o' (by simpa using h') gl e' (by simpa using he') hb'
    have wit' : ∀ j, j < c.n → listed.getD j false = true → ∃ Wj, c.Rel Wj ∧ (c.pre j = true → c.Pre Wj) ∧ c.facts ρ j Wj ∧ c.facts ρ' j Wj := fun j g gl => by
      obtain ⟨Wj, w1, w2, w3⟩ := h.wit j g gl
      exact ⟨Wj, w1, w2, w3, fun r' hr' ha hb => atE r' hr' (ancL j _ gl ha) Wj (w3 r' hr' ha hb)⟩
    have same : ∀ j, j < c.n → listed.getD j false = true → ∀ x d, c.l[j]? = some x → x.dst = some d → Same B B' d := by
      intro j
      induction j using Nat.strongRecOn with
      | ind j ih =>
        intro g gl x d gx gd
        rcases h.fin.ok j x g gx with ⟨p1, p2⟩ | ⟨r1, hr1, hk1, p1, p2⟩
        · rcases hB'.ok j x g gx with ⟨q1, q2⟩ | ⟨r2, hr2, hk2, q1, q2⟩
          · obtain ⟨Wj, w1, w2, w3, w4⟩ := wit' j g gl
            refine CalmAt.same (F.sel j x g gx) (h.fin.size.trans hB'.size.symm) (fun t ht => ?_) (p2 Wj w1 w2 w3) (q2 Wj w1 w2 w4) d gd
            rcases F.looks j x g gx t ht with e | ⟨e, he, hb, hlt, y, hy, hyd⟩
            · exact (h.fin.out t e).trans (hB'.out t e).symm
            · exact ih e.on hlt (by omega) (inv.closed j x (by simpa using gx) gl e (by simpa using he) hb) y t hy hyd
          · exact absurd hk2 (p1 r2 hr2)
        · rcases hB'.ok j x g gx with ⟨q1, q2⟩ | ⟨r2, hr2, hk2, q1, q2⟩
          · exact absurd hk1 (q1 r1 hr1)
          · have e1 := p1 d gd
            have e2 := q1 d gd
            rw [ρj j (ne_i j gl)] at e2
            exact e1.trans e2.symm
    refine hN _ _ ρ' B' ⟨hIs, hB', fun r' hr' hl hb => ?_, outs v, fun j x d g gx gl gd => ?_, ?_, fun g => ?_, isz v, by rw [put_defers]; exact h.defers, fun j g gl => ?_⟩
    · by_cases e : r'.k = i
      · obtain rfl := HT.one r' hr' r hr (e.trans hrk.symm)
        unfold SqRow.at
        rw [e, ρi, ρj r'.d (fun e' => HT.self r' hr' (e'.trans e.symm))]
        exact l2
      · have hl' := (hset _ hl).resolve_left e
        refine atE r' hr' hl' W' ?_
        have g := h.facts r' hr' hl' fun e' => (hset0 (hb e')).1
        split at l3
        · rename_i hk0
          refine HT.S0 r' hr' ?_ (fun e' => e (e'.trans (hk0.symm.trans hrk))) _ _ _ _ g l3.2
          cases hbf : r'.bef with
          | false => rfl
          | true => exact absurd (hrk.symm.trans hk0) (hset0 (hb hbf)).2
        · exact HT.S r' hr' _ _ _ _ g l3
    · rcases hset _ gl with e | e
      · subst e
        obtain rfl : x = o := by rw [ho] at gx; exact (Option.some.inj gx).symm
        rcases hB'.ok j x g gx with ⟨q1, q2⟩ | ⟨r2, hr2, hk2, q1, q2⟩
        · exact absurd hrk (q1 r hr)
        · refine Eq.trans ?_ (q1 d gd).symm
          have hds := F.size j x d g gx gd
          rw [gd, ρi]
          simp only [Act.put, Array.getElem?_setIfInBounds_self]
          rw [if_pos (by rw [h.size, hz]; exact hds)]
      · exact ((putB_same (dst_i j x d g gx e gd)).trans (h.told j x d g gx e gd)).trans (same j g e x d gx gd)
    · split at l3
      · exact l3.1
      · exact HT.rel _ _ h.rel l3
    · obtain ⟨g1, g2⟩ := hset0 g
      rw [if_neg (fun e => g2 (hrk.symm.trans e))] at l3
      exact HT.pre _ _ (h.pre g1) l3
    · rcases hset _ gl with e | e
      · subst e
        refine ⟨W, h.rel, hpre, fun r' hr' ha hb => atE r' hr' (anc_listed inv ha hdep') W (hfacts r' hr' ha hb)⟩
      · obtain ⟨Wj, w1, w2, w3, w4⟩ := wit' j g e
        exact ⟨Wj, w1, w2, w4⟩

def sqDone (n m : Nat) : Array Bool := (List.replicate n true ++ List.replicate (m - n) false).toArray
theorem wpAny_sq {c : SqC} {sz : Nat} (F : SqF c.l c.n sz) (HT : SqT c) {E : (Nat → Value) → Act → Prop} {a0 : Act} (hz : a0.tmps.size = sz) (G : ∀ ρ, c.Is ρ → ∃ B, SqFin c E a0 ρ B) {Q : Exit → Act → World → Prop} {rest : List Oper}
    (hn : c.n ≤ c.l.length) (hhead : ∀ listed, HeadInv .any c.l.toArray c.n listed → ∀ i0, i0 < c.n → listed.getD i0 true = false → ∀ i, i ∈ Region.ready .any c.l.toArray listed → i < c.n)
    (hrest : ∀ j, rest[j]? = c.l.toArray[c.n + j]?) (hseq : Region.seqB .any c.l.toArray rest.length c.n (sqDone c.n c.l.toArray.size) = true)
    (hend : ∀ ρ B W, E ρ B → c.Rel W → (∀ r ∈ c.T, r.bef = false → r.at ρ W) → wpList c.P c.l.toArray Q rest B W) :
    ∀ (f : Nat) (listed : Array Bool) (a : Act) (W : World) (ρ : Nat → Value) (B : Act), HeadInv .any c.l.toArray c.n listed → (listed.toList.take c.n).count false = f → SqAt c E a0 a W listed ρ B → wpAny c.P .any c.l.toArray Q (f + rest.length) listed a W := by
  intro f
  induction f with
  | zero =>
    intro listed a W ρ B inv hcnt hI
    have e : listed = sqDone c.n c.l.toArray.size := by
      apply Array.ext
      · rw [inv.size]; simp [sqDone]; omega
      · intro i h1 h2
        rcases Nat.lt_or_ge i c.n with h | h
        · have hm : listed[i] ∈ listed.toList.take c.n := by
            rw [List.mem_take_iff_getElem]
            exact ⟨i, by simp; omega, by simp⟩
          have hne : listed[i] ≠ false := fun e => by
            rw [e] at hm
            have := List.count_pos_iff.2 hm
            omega
          have : listed[i] = true := by simpa using hne
          rw [this]
          simp [sqDone, h]
        · have := inv.tail i h (by rw [← inv.size]; exact h1)
          have h3 : listed[i] = false := by simpa [Array.getD, h1] using this
          rw [h3]
          simp [sqDone, List.getElem_append, Nat.not_lt.2 h]
    have full : ∀ j, j < c.n → listed.getD j false = true := fun j hj => by
      have hjl : j < listed.size := by rw [inv.size]; simp; omega
      rw [e] at hjl ⊢
      simp [sqDone, hj, List.getElem?_append]
    have hB : a = B := by
      have ht : a.tmps = B.tmps := by
        apply Array.ext_getElem?
        intro t
        by_cases hex : ∃ j o, j < c.n ∧ c.l[j]? = some o ∧ o.dst = some t
        · obtain ⟨j, o, h1, h2, h3⟩ := hex
          exact hI.told j o t h1 h2 (full j h1) h3
        · have hno : ∀ (j : Nat) (o : Oper), j < c.n → c.l[j]? = some o → o.dst ≠ some t := fun j o h1 h2 h3 => hex ⟨j, o, h1, h2, h3⟩
          exact (hI.out t hno).trans (hI.fin.out t hno).symm
      cases a; cases B
      have := hI.defers.trans hI.fin.defers.symm
      simp only at ht this
      subst ht; subst this; rfl
    subst hB
    have hl := hend ρ a W hI.fin.fin hI.rel fun r hr hb => hI.facts r hr (full _ (HT.lt r hr)) fun h => by rw [hb] at h; cases h
    rw [Nat.zero_add]
    subst e
    exact wpAny_of_seq (md := .any) rest c.n _ a W hrest hseq hl
  | succ f ih =>
    intro listed a W ρ B inv hcnt hI
    have hex : ∃ i, i < c.n ∧ listed.getD i true = false := by
      have hm : false ∈ listed.toList.take c.n := List.count_pos_iff.1 (by omega)
      rw [List.mem_take_iff_getElem] at hm
      obtain ⟨i, h1, h2⟩ := hm
      have h1' : i < c.n ∧ i < listed.size := by simp at h1; omega
      refine ⟨i, h1'.1, ?_⟩
      simp [Array.getD, h1'.2]
      simpa using h2
    obtain ⟨i0, hi0, hun0⟩ := hex
    rw [show f + 1 + rest.length = (f + rest.length) + 1 by omega]
    refine ⟨fun hr => ?_, fun i hi => ?_⟩
    · exfalso
      have key : ∀ k, k < c.n → listed.getD k false = true := by
        intro k
        induction k using Nat.strongRecOn with
        | ind k ihk =>
          intro hk
          rcases hb : listed.getD k false with _ | _
          · exfalso
            have hk' : k < listed.size := by rw [inv.size]; simp; omega
            have hk2 : k < c.l.length := by omega
            have hm : k ∈ Region.ready .any c.l.toArray listed := by
              rw [mem_ready]
              refine ⟨getD_in hk' hb, c.l[k], by simp [hk2], fun e he hb' => ?_⟩
              have hlt := F.back k c.l[k] hk (by simp [hk2]) e (by simpa using he) hb'
              exact ihk e.on hlt (by omega)
            rw [hr] at hm
            cases hm
          · rfl
      have h9 := key i0 hi0
      rw [getD_both hun0] at h9
      cases h9
    · have hin : i < c.n := hhead listed inv i0 hi0 hun0 i hi
      obtain ⟨h1, o, ho, hdep⟩ := mem_ready.1 hi
      refine SqAt.next F HT hz G inv hI hin h1 (by simpa using ho) (fun e he hb => hdep e (by simpa using he) hb) fun a' W' ρ' B' hI' => ih _ _ _ ρ' B' (inv.set hi hin) ?_ hI'
      have hil' : i < listed.size := by rw [inv.size]; simp; omega
      have e : (listed.toList.take c.n)[i]? = some false := by
        have h3 : listed[i] = false := by simpa [Array.getD, hil'] using h1
        rw [List.getElem?_take, if_pos hin]
        simp [hil', h3]
      have key : ∀ (l : List Bool) (i : Nat), l[i]? = some false → (l.set i true).count false + 1 = l.count false := by
        intro l
        induction l with
        | nil => intro i h; simp at h
        | cons b l ih =>
          intro i h
          cases i with
          | zero => obtain rfl : b = false := by simpa using h
                    simp
          | succ i =>
            have := ih i (by simpa using h)
            rw [List.set_cons_succ, List.count_cons, List.count_cons]
            omega
      have := key _ i e
      rw [Array.toList_setIfInBounds, List.take_set]
      omega

/-- the region's form, told by a Boolean -/
def sqOper (l : List Oper) (n sz k : Nat) (o : Oper) : Bool :=
  (match o.op with | .select _ _ => false | _ => true) &&
  (match o.dst with | some d => decide (d < sz) && (List.range k).all fun i => (l[i]?.bind (·.dst)) != some d | none => true) &&
  ((o.looksAt l.toArray).all fun t => ((List.range n).all fun i => (l[i]?.bind (·.dst)) != some t) || o.after.toList.any fun e => Region.binds .any e && (l[e.on]?.bind (·.dst)) == some t) &&
  o.after.toList.all fun e => !Region.binds .any e || decide (e.on < k)
def sqForm (l : List Oper) (n sz : Nat) : Bool :=
  decide (n ≤ l.length) && (decide (n = l.length) || Region.sinkB .any l.toArray n && Region.chainB .any l.toArray n) && Region.seqB .any l.toArray (l.length - n) n (sqDone n l.length) &&
  (List.range n).all fun k => match l[k]? with | some o => sqOper l n sz k o | none => true
theorem SqF.of {l : List Oper} {n sz : Nat} (h : ((List.range n).all fun k => match l[k]? with | some o => sqOper l n sz k o | none => true) = true) : SqF l n sz := by
  have key : ∀ k o, k < n → l[k]? = some o → sqOper l n sz k o = true := fun k o hk ho => by
    have := List.all_eq_true.1 h k (List.mem_range.2 hk)
    rw [ho] at this; exact this
  have back : ∀ (k : Nat) (o : Oper), k < n → l[k]? = some o → ∀ e ∈ o.after.toList, Region.binds .any e = true → e.on < k := fun k o hk ho e he hb => by
    have := key k o hk ho
    unfold sqOper at this
    rw [Bool.and_eq_true] at this
    have := List.all_eq_true.1 this.2 e he
    simpa [hb] using this
  have early : ∀ (i j : Nat) (x y : Oper) (d : Nat), i < j → j < n → l[i]? = some x → l[j]? = some y → x.dst = some d → y.dst = some d → False := fun i j x y d hij hj hx hy gx gy => by
    have := key j y hj hy
    unfold sqOper at this
    simp only [Bool.and_eq_true] at this
    have := this.1.1.2
    rw [gy] at this
    simp only [Bool.and_eq_true] at this
    have := List.all_eq_true.1 this.2 i (List.mem_range.2 hij)
    rw [hx] at this
    simp [gx] at this
  refine ⟨fun k o hk ho cs b e => ?_, fun i j x y d hi hj hx hy gx gy => ?_, fun k o hk ho t ht => ?_, fun k o d hk ho hd => ?_, back⟩
  · have := key k o hk ho
    unfold sqOper at this
    rw [e] at this
    simp at this
  · rcases Nat.lt_trichotomy i j with g | g | g
    · exact (early i j x y d g hj hx hy gx gy).elim
    · exact g
    · exact (early j i y x d g hi hy hx gy gx).elim
  · have := key k o hk ho
    unfold sqOper at this
    simp only [Bool.and_eq_true] at this
    have := List.all_eq_true.1 this.1.2 t ht
    rw [Bool.or_eq_true] at this
    rcases this with g | g
    · refine Or.inl fun i x hi hx gd => ?_
      have := List.all_eq_true.1 g i (List.mem_range.2 hi)
      rw [hx] at this
      simp [gd] at this
    · obtain ⟨e, he, g⟩ := List.any_eq_true.1 g
      rw [Bool.and_eq_true] at g
      refine Or.inr ⟨e, he, g.1, back k o hk ho e he g.1, ?_⟩
      have g2 := eq_of_beq g.2
      cases hx : l[e.on]? with
      | none => rw [hx] at g2; cases g2
      | some x => rw [hx] at g2; exact ⟨x, rfl, g2⟩
  · have := key k o hk ho
    unfold sqOper at this
    simp only [Bool.and_eq_true] at this
    have := this.1.1.2
    rw [hd] at this
    simp only [Bool.and_eq_true, decide_eq_true_eq] at this
    exact this.1
def SqC.rowsB (c : SqC) : Bool := c.T.all (fun r => decide (r.k < c.n) && (decide (c.n ≤ r.d) || c.anc r.d r.k) && r.d != r.k) && decide (c.T.map (·.k)).Nodup
def SqC.monoR (c : SqC) : List SqRow → Prop
  | [] => True
  | r :: T => (∀ x y W W', r.R x y W → c.S W W' → r.R x y W') ∧ (r.bef = false → r.k ≠ c.k0 → ∀ x y W W', r.R x y W → c.S0 W W' → r.R x y W') ∧ SqC.monoR c T
theorem monoR_spec {c : SqC} : ∀ {T : List SqRow}, c.monoR T → ∀ r ∈ T, (∀ x y W W', r.R x y W → c.S W W' → r.R x y W') ∧ (r.bef = false → r.k ≠ c.k0 → ∀ x y W W', r.R x y W → c.S0 W W' → r.R x y W')
  | r :: T, h, r', hr => by
    rcases List.mem_cons.1 hr with rfl | hr
    · exact ⟨h.1, h.2.1⟩
    · exact monoR_spec h.2.2 r' hr
def SqC.allR (ρ : Nat → Value) (W : World) : List SqRow → Prop
  | [] => True
  | r :: T => (r.bef = false → r.at ρ W) ∧ SqC.allR ρ W T
theorem allR_of {ρ : Nat → Value} {W : World} : ∀ {T : List SqRow}, (∀ r ∈ T, r.bef = false → r.at ρ W) → SqC.allR ρ W T
  | [], _ => trivial
  | r :: T, h => ⟨h r (by simp), allR_of fun r' h' => h r' (by simp [h'])⟩
def rho0 : List SqRow → Nat → Value
  | [], _ => undef
  | r :: T, k => if r.k = k then r.is.getD undef else rho0 T k
theorem rho0_spec : ∀ {T : List SqRow}, (T.map (·.k)).Nodup → ∀ r ∈ T, ∀ u, r.is = some u → rho0 T r.k = u
  | r :: T, h, r', hr, u, hu => by
    rw [List.map_cons, List.nodup_cons] at h
    unfold rho0
    rcases List.mem_cons.1 hr with rfl | hr
    · rw [if_pos rfl, hu]; rfl
    · rw [if_neg (show ¬ r.k = r'.k from fun e => h.1 (e ▸ List.mem_map.2 ⟨r', hr, rfl⟩))]
      exact rho0_spec h.2 r' hr u hu
theorem one_of : ∀ {T : List SqRow}, (T.map (·.k)).Nodup → ∀ r ∈ T, ∀ r' ∈ T, r.k = r'.k → r = r'
  | x :: T, h, r, hr, r', hr', e => by
    rw [List.map_cons, List.nodup_cons] at h
    rcases List.mem_cons.1 hr with rfl | g <;> rcases List.mem_cons.1 hr' with rfl | g'
    · rfl
    · exact absurd (List.mem_map.2 ⟨r', g', e.symm⟩) h.1
    · exact absurd (List.mem_map.2 ⟨r, g, e⟩) h.1
    · exact one_of h.2 r g r' g' e

/-- the region -/
theorem wp_sqC (c : SqC) {Q : Exit → Act → World → Prop} {a : Act} {w : World} {id : Nat} (hm : c.P.follows .mixedOrders = true) (hform : sqForm c.l c.n a.tmps.size = true) (hrows : c.rowsB = true)
    (hw : c.Rel { w with drawn := w.drawn + 1 }) (hp : c.Pre { w with drawn := w.drawn + 1 }) (hR : ∀ W W', c.Rel W → c.S W W' → c.Rel W') (hP : ∀ W W', c.Pre W → c.S W W' → c.Pre W') (hmono : c.monoR c.T)
    (H : ∀ ρ, c.Is ρ → SqW c ρ (fun B => ∀ W, c.Rel W → SqC.allR ρ W c.T → wpList c.P c.l.toArray Q (c.l.drop c.n) B W) 0 a) : (Code.region id c.l.toArray true).wp c.P Q a w := by
  unfold sqForm at hform
  simp only [Bool.and_eq_true, Bool.or_eq_true, decide_eq_true_eq] at hform
  obtain ⟨⟨⟨hn, hs⟩, hq⟩, hF⟩ := hform
  unfold SqC.rowsB at hrows
  rw [Bool.and_eq_true, decide_eq_true_eq] at hrows
  obtain ⟨hr1, hnd⟩ := hrows
  have F := SqF.of hF
  have hr1' : ∀ r ∈ c.T, r.k < c.n ∧ (c.n ≤ r.d ∨ c.anc r.d r.k = true) ∧ r.d ≠ r.k := fun r hr => by
    have := List.all_eq_true.1 hr1 r hr
    simp only [Bool.and_eq_true, Bool.or_eq_true, decide_eq_true_eq, bne_iff_ne] at this
    exact ⟨this.1.1, this.1.2, this.2⟩
  have HT : SqT c := ⟨fun r hr => (hr1' r hr).1, one_of hnd, fun r hr => (hr1' r hr).2.1, fun r hr => (hr1' r hr).2.2, fun r hr => (monoR_spec hmono r hr).1, fun r hr => (monoR_spec hmono r hr).2, hR, hP⟩
  have G : ∀ ρ, c.Is ρ → ∃ B, SqFin c (fun ρ B => ∀ W, c.Rel W → SqC.allR ρ W c.T → wpList c.P c.l.toArray Q (c.l.drop c.n) B W) a ρ B := fun ρ hρ => by
    obtain ⟨B, b1, b2, b3, b4, b5⟩ := (H ρ hρ).spec F hn rfl
    exact ⟨B, b1, b2, b3, fun t ht => b4 t fun j o _ g2 go => ht j o g2 go, fun j o g go => b5 j o (Nat.zero_le _) g go⟩
  obtain ⟨B0, hB0⟩ := G (rho0 c.T) (rho0_spec hnd)
  have inv0 : HeadInv .any c.l.toArray c.n (Array.replicate c.l.toArray.size false) :=
    ⟨by simp, fun j oj _ hl => (by rw [getD_replicate_false] at hl; cases hl), fun t _ ht => getD_in (by simpa using ht) (getD_replicate_false _ _)⟩
  refine wp_region_any hm ?_
  have hdl : (c.l.drop c.n).length = c.l.length - c.n := by simp
  have := wpAny_sq F HT (Q := Q) rfl G hn (fun listed inv i0 h0 hun i hi => by
      rcases hs with hs | hs
      · obtain ⟨_, o, ho, _⟩ := mem_ready.1 hi
        have := (Array.getElem?_eq_some_iff.1 ho).1
        simp at this; omega
      · rcases Nat.lt_or_ge i c.n with g | g
        · exact g
        · obtain ⟨_, o, ho, _⟩ := mem_ready.1 hi
          have hl := (Array.getElem?_eq_some_iff.1 ho).1
          exact absurd hi (tail_waits hs.1 hs.2 (by omega) inv _ i0 rfl h0 hun i g)) (rest := c.l.drop c.n) (fun j => by simp [List.getElem?_drop]) (by rw [hdl]; simpa using hq)
    (fun ρ B W hE hW hf => hE W hW (allR_of hf)) c.n (Array.replicate c.l.toArray.size false) a { w with drawn := w.drawn + 1 } (rho0 c.T) B0 inv0 (by simp; omega)
    ⟨rho0_spec hnd, hB0, fun r _ h => by (rw [getD_replicate_false] at h; cases h), fun _ _ => rfl, fun j o d _ _ h => by (rw [getD_replicate_false] at h; cases h), hw, fun _ => hp, rfl, rfl, fun j _ h => by (rw [getD_replicate_false] at h; cases h)⟩
  rw [hdl] at this
  have e : c.n + (c.l.length - c.n) = c.l.toArray.size := by simp; omega
  rw [e] at this
  exact this

/-- a row that tells of its value alone -/
def rw1 (k : Nat) (R : Value → World → Prop) : SqRow := ⟨k, 9999, none, false, fun v _ W => R v W⟩
/-- a row whose value is known -/
def rwI (k : Nat) (v : Value) : SqRow := ⟨k, 9999, some v, false, fun _ _ _ => True⟩
/-- a row that tells of its value and of that of d -/
def rw2 (k d : Nat) (R : Value → Value → World → Prop) : SqRow := ⟨k, d, none, false, R⟩
/-- a region in which nothing is turned that was there -/
def sq0 (P : Program) (l : List Oper) (n : Nat) (T : List SqRow) (w : World) : SqC := ⟨P, l, n, 99999, T, Ext w, fun _ => True, Ext, Ext⟩
def mono0 : List SqRow → Prop
  | [] => True
  | r :: T => (∀ x y W W', r.R x y W → Ext W W' → r.R x y W') ∧ mono0 T
theorem mono0_spec {P : Program} {l : List Oper} {n : Nat} {T' : List SqRow} {w : World} : ∀ {T : List SqRow}, mono0 T → (sq0 P l n T' w).monoR T
  | [], _ => trivial
  | r :: T, h => ⟨h.1, fun _ _ => h.1, mono0_spec h.2⟩
section
variable {P : Program} {l : List Oper} {n : Nat} {T : List SqRow} {w : World} {ρ : Nat → Value} {E : Act → Prop}
/-- m quiet operations -/
theorem SqW.q {k : Nat} {A : Act} (m : Nat) {A' : Act} (hB : (sq0 P l n T w).segB [] false k m = true) (hw : ∀ W, Ext w W → wpCalm P l.toArray W (fun a => a = A') ((l.drop k).take m) A) (hM : blank ((l.drop k).take m) A' = blank ((l.drop k).take m) A) (h : SqW (sq0 P l n T w) ρ E (k + m) A') : SqW (sq0 P l n T w) ρ E k A :=
  .seg m [] false A' hB (fun W x _ _ => hw W x) hM h
/-- the same, with what the row i tells -/
theorem SqW.qj {k : Nat} {A : Act} (m i : Nat) {A' : Act} {r : SqRow} (hi : T[i]? = some r) (hB : (sq0 P l n T w).segB [i] false k m = true) (hw : ∀ W, Ext w W → r.R (ρ r.k) (ρ r.d) W → wpCalm P l.toArray W (fun a => a = A') ((l.drop k).take m) A) (hM : blank ((l.drop k).take m) A' = blank ((l.drop k).take m) A) (h : SqW (sq0 P l n T w) ρ E (k + m) A') : SqW (sq0 P l n T w) ρ E k A :=
  .seg m [i] false A' hB (fun W x _ f => hw W x (by
    have := f.1
    simp only [sq0, hi] at this
    exact this)) hM h
theorem loud_step {ops : Array Oper} {o : Oper} {a : Act} {K : Value → World → Prop} (h : ∀ N : Value → World → Prop, (∀ v W, K v W → N v W) → if Region.wanted o (yielded ops a.tmps) then loudUpon P N ((execOp a.eval o).run P w) else N undef w) : loud P ops o a w K := h _ fun _ _ h => h
theorem loud_mono {ops : Array Oper} {o : Oper} {a : Act} {K K' : Value → World → Prop} (h : ∀ v W, K v W → K' v W) (hl : loud P ops o a w K) : loud P ops o a w K' := by
  unfold loud at hl ⊢
  split
  · rename_i hw
    rw [if_pos hw] at hl
    generalize (execOp a.eval o).run P w = r at *
    cases r with
    | ok x w' =>
      cases x <;> simp only [loudUpon] at hl ⊢
      case enter f args => exact hl.mono fun e W ⟨v, he, hv⟩ => ⟨v, he, h _ _ hv⟩
      all_goals exact h _ _ hl
    | halt x w' => simp only [loudUpon] at hl
  · rename_i hw
    rw [if_neg hw] at hl
    exact h _ _ hl
/-- a call, whose arguments are quiet -/
theorem SqW.c {k : Nat} {A : Act} (i : Nat) {R : Value → World → Prop} {o : Oper} (hi : T[i]? = some (rw1 k R)) (ho : l[k]? = some o) (hk : k < 9999) (hB : (sq0 P l n T w).rowB [] false k i = true) (hw : ∀ W, Ext w W → loud P l.toArray o A W fun v W' => R v W' ∧ Ext W W')
    (h : SqW (sq0 P l n T w) ρ E (k + 1) (A.put o.dst (ρ k))) : SqW (sq0 P l n T w) ρ E k A :=
  .row i [] false _ o hi ho hB (fun W x _ _ => by
    have hne : ¬ k = (sq0 P l n T w).k0 := by show ¬ k = 99999; omega
    exact loud_mono (fun v W' h => ⟨fun u e => (by cases e), h.1, (by rw [if_neg hne]; exact h.2)⟩) (hw W x)) h
end
attribute [local go_sem] calm calmUpon loudUpon
/-- quiet operations, walked -/
theorem calmT {p : Prop} (h : p := by
  repeat (refine wpCalm_step fun K hK => ?_; go_simp; refine hK _ ?_; clear hK K)
  exact wpCalm_nil rfl) : p := h
theorem ret_to {K N : Value → World → Prop} (hN : ∀ v W, K v W → N v W) (e : Ending) (W : World) (h : ∃ v, e = .returned v ∧ K v W) : ∃ v, e = .returned v ∧ N v W := by
  obtain ⟨v, he, hK⟩ := h
  exact ⟨v, he, hN _ _ hK⟩
theorem Ext.same {w W : World} (x : Ext w W) (p : Addr) (h : (w.cell? p).isSome = true) : W.cell? p = w.cell? p := by
  cases e : w.cell? p with
  | none => rw [e] at h; cases h
  | some v => exact x.keep e
section
variable {P : Program} {l : List Oper} {n : Nat} {T : List SqRow} {w : World} {ρ : Nat → Value} {E : Act → Prop}
/-- m quiet operations -/
theorem SqW.s {k : Nat} {A A' : Act} (m : Nat) (hw : ∀ W, Ext w W → (∀ p, (w.cell? p).isSome = true → W.cell? p = w.cell? p) → wpCalm P l.toArray W (fun a => a = A') ((l.drop k).take m) A) (h : SqW (sq0 P l n T w) ρ E (k + m) A')
    (hB : (sq0 P l n T w).segB [] false k m = true := by kernel_rfl) (hM : blank ((l.drop k).take m) A' = blank ((l.drop k).take m) A := by kernel_rfl) : SqW (sq0 P l n T w) ρ E k A :=
  .seg m [] false A' hB (fun W x _ _ => hw W x fun p h => Ext.same x p h) hM h
/-- a call that makes memory -/
theorem SqW.k {k : Nat} {A : Act} (i : Nat) {R : Value → World → Prop} {o : Oper} {f : FuncId} {args : Array Value} (hC : ∀ W, Ext w W → Calls P f args W fun e W' => ∃ v, e = .returned v ∧ R v W' ∧ Ext W W') (h : SqW (sq0 P l n T w) ρ E (k + 1) (A.put o.dst (ρ k)))
    (hi : T[i]? = some (rw1 k R) := by exact rfl) (ho : l[k]? = some o := by exact rfl) (hk : k < 9999 := by decide) (hB : (sq0 P l n T w).rowB [] false k i = true := by kernel_rfl)
    (hg : Region.wanted o (yielded l.toArray A.tmps) = true := by kernel_rfl) (hrun : ∀ W, (execOp A.eval o).run P W = .ok (.enter f args) W := by intro W; go_simp) : SqW (sq0 P l n T w) ρ E k A :=
  .c i hi ho hk hB (fun W x => by
    unfold loud
    rw [if_pos hg, hrun W]
    exact hC W x) h
end
section
variable {P : Program} {l : List Oper} {n : Nat} {T : List SqRow} {w : World} {ρ : Nat → Value} {E : Act → Prop}
/-- quiet operations, with what the rows J tell -/
theorem SqW.j {k : Nat} {A A' : Act} (m : Nat) (J : List Nat) (hw : ∀ W, Ext w W → (∀ p, (w.cell? p).isSome = true → W.cell? p = w.cell? p) → (sq0 P l n T w).fj ρ W J → wpCalm P l.toArray W (fun a => a = A') ((l.drop k).take m) A) (h : SqW (sq0 P l n T w) ρ E (k + m) A')
    (hB : (sq0 P l n T w).segB J false k m = true := by kernel_rfl) (hM : blank ((l.drop k).take m) A' = blank ((l.drop k).take m) A := by kernel_rfl) : SqW (sq0 P l n T w) ρ E k A :=
  .seg m J false A' hB (fun W x _ f => hw W x (fun p h => Ext.same x p h) f) hM h
theorem loud_of {ops : Array Oper} {o : Oper} {a : Act} {W : World} {K : Value → World → Prop} (hg : Region.wanted o (yielded ops a.tmps) = true) (h : loudUpon P K ((execOp a.eval o).run P W)) : loud P ops o a W K := by
  unfold loud
  rw [if_pos hg]
  exact h
/-- an operation that the row i tells of, with what the rows J tell -/
theorem SqW.o {k : Nat} {A : Act} (i : Nat) (J : List Nat) {r : SqRow} {o : Oper} (hw : ∀ W, Ext w W → (∀ p, (w.cell? p).isSome = true → W.cell? p = w.cell? p) → (sq0 P l n T w).fj ρ W J → ∀ N : Value → World → Prop, (∀ v W', (∀ u, r.is = some u → v = u) → r.R v (ρ r.d) W' → Ext W W' → N v W') → loudUpon P N ((execOp A.eval o).run P W))
    (h : SqW (sq0 P l n T w) ρ E (k + 1) (A.put o.dst (ρ k))) (hi : T[i]? = some r := by exact rfl) (ho : l[k]? = some o := by exact rfl) (hk : k < 9999 := by decide) (hB : (sq0 P l n T w).rowB J false k i = true := by kernel_rfl) (hg : Region.wanted o (yielded l.toArray A.tmps) = true := by kernel_rfl) : SqW (sq0 P l n T w) ρ E k A :=
  .row i J false r o hi ho hB (fun W x _ f => loud_of hg (hw W x (fun p h => Ext.same x p h) f _ fun v W' h1 h2 h3 => ⟨h1, h2, by
    rw [if_neg (show ¬ k = (sq0 P l n T w).k0 by show ¬ k = 99999; omega)]
    exact h3⟩)) h
/-- an operation whose value is known -/
theorem SqW.v {k : Nat} {A : Act} (hI : (sq0 P l n T w).Is ρ) (i : Nat) (J : List Nat) (v : Value) {o : Oper} (hw : ∀ W, Ext w W → (∀ p, (w.cell? p).isSome = true → W.cell? p = w.cell? p) → (sq0 P l n T w).fj ρ W J → ∀ N : Value → World → Prop, (∀ W', Ext W W' → N v W') → loudUpon P N ((execOp A.eval o).run P W))
    (h : SqW (sq0 P l n T w) ρ E (k + 1) (A.put o.dst v)) (hi : T[i]? = some (rwI k v) := by exact rfl) (ho : l[k]? = some o := by exact rfl) (hk : k < 9999 := by decide) (hB : (sq0 P l n T w).rowB J false k i = true := by kernel_rfl) (hg : Region.wanted o (yielded l.toArray A.tmps) = true := by kernel_rfl) : SqW (sq0 P l n T w) ρ E k A :=
  SqW.o i J (fun W x y f N hN => hw W x y f N fun W' x' => hN v W' (fun u e => Option.some.inj e) trivial x') (by rw [show ρ k = v from hI (rwI k v) (List.mem_of_getElem? hi) v rfl]; exact h) hi ho hk hB hg
/-- a call whose value is known -/
theorem SqW.kv {k : Nat} {A : Act} (hI : (sq0 P l n T w).Is ρ) (i : Nat) (v : Value) {o : Oper} {f : FuncId} {args : Array Value} (hC : ∀ W, Ext w W → Calls P f args W fun e W' => e = .returned v ∧ Ext W W') (h : SqW (sq0 P l n T w) ρ E (k + 1) (A.put o.dst v))
    (hi : T[i]? = some (rwI k v) := by exact rfl) (ho : l[k]? = some o := by exact rfl) (hk : k < 9999 := by decide) (hB : (sq0 P l n T w).rowB [] false k i = true := by kernel_rfl)
    (hg : Region.wanted o (yielded l.toArray A.tmps) = true := by kernel_rfl) (hrun : ∀ W, (execOp A.eval o).run P W = .ok (.enter f args) W := by intro W; go_simp) : SqW (sq0 P l n T w) ρ E k A :=
  SqW.v hI i [] v (fun W x _ _ N hN => by
    rw [hrun W]
    exact (hC W x).mono fun e W' h => ⟨v, h.1, hN W' h.2⟩) h hi ho hk hB hg
end
theorem Ext.blk {W W' : World} (e : Ext W W') {q : Nat} {o : Obj} (h : W.heap[q]? = some o) : W'.heap[q]? = some o := by
  rw [RowKit.Below.block e q (Array.getElem?_eq_some_iff.1 h).1]; exact h
/-- what the rows tell at the end -/
def all0 (ρ : Nat → Value) (W : World) : List SqRow → Prop
  | [] => True
  | r :: T => r.R (ρ r.k) (ρ r.d) W ∧ all0 ρ W T
theorem all0_of {ρ : Nat → Value} {W : World} : ∀ {T : List SqRow}, T.all (fun r => !r.bef) = true → SqC.allR ρ W T → all0 ρ W T
  | [], _, _ => trivial
  | r :: T, hb, h => by
    rw [List.all_cons, Bool.and_eq_true] at hb
    exact ⟨h.1 (by simpa using hb.1), all0_of hb.2 h.2⟩
theorem wp_sq {P : Program} {l : List Oper} (n : Nat) (T : List SqRow) {Q : Exit → Act → World → Prop} {a : Act} {w : World} {id : Nat} (hmono : mono0 T)
    (H : ∀ ρ, (sq0 P l n T w).Is ρ → SqW (sq0 P l n T w) ρ (fun B => ∀ W, Ext w W → all0 ρ W T → wpList P l.toArray Q (l.drop n) B W) 0 a)
    (hm : P.follows .mixedOrders = true := by kernel_rfl) (hform : sqForm l n a.tmps.size = true := by kernel_rfl) (hrows : (sq0 P l n T w).rowsB = true := by kernel_rfl) (hb : T.all (fun r => !r.bef) = true := by kernel_rfl) : (Code.region id l.toArray true).wp P Q a w :=
  wp_sqC (sq0 P l n T w) hm hform hrows ((Ext.refl w).drew) trivial (fun _ _ => Ext.trans) (fun _ _ _ _ => trivial) (mono0_spec hmono) fun ρ h => (H ρ h).mono fun B g W hW hT => g W hW (all0_of hb hT)
end Go.Proofs.Ytfcoidpkhggnpaa
