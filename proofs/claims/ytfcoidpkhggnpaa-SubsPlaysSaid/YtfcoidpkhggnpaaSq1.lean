/-
  Sq's form of a region in which one operation, k0, turns what was there; no claim stands here.
-/
import Derived.Test.YtfcoidpkhggnpaaSq
namespace Go.Proofs.Ytfcoidpkhggnpaa
open Go.ChangeShapes Go.WideShapes Go.ChangeAt Go.RowKit Go.Sort
set_option linter.unusedVariables false
set_option linter.unusedSimpArgs false

/-- a region in which k0 alone turns what was there: till then Pre holds; Rel always; what k0 leaves is its row's -/
def sq1 (P : Program) (l : List Oper) (n k0 : Nat) (T : List SqRow) (Rel Pre : World → Prop) (S S0 : World → World → Prop) : SqC := ⟨P, l, n, k0, T, Rel, Pre, S, S0⟩
/-- what k0 leaves -/
def rw0 (k : Nat) (R : World → Prop) : SqRow := ⟨k, 9999, none, false, fun _ _ W => R W⟩
/-- what is told till k0 alone -/
def rwB (k : Nat) (R : Value → World → Prop) : SqRow := ⟨k, 9999, none, true, fun v _ W => R v W⟩
section
variable {P : Program} {l : List Oper} {n k0 : Nat} {T : List SqRow} {Rel Pre : World → Prop} {S S0 : World → World → Prop} {ρ : Nat → Value} {E : Act → Prop}
/-- m quiet operations; b: ahead of k0, all of them -/
theorem SqW.s1 {k : Nat} {A A' : Act} (m : Nat) (b : Bool) (J : List Nat) (hw : ∀ W, Rel W → (b = true → Pre W) → (sq1 P l n k0 T Rel Pre S S0).fj ρ W J → wpCalm P l.toArray W (fun a => a = A') ((l.drop k).take m) A) (h : SqW (sq1 P l n k0 T Rel Pre S S0) ρ E (k + m) A')
    (hB : (sq1 P l n k0 T Rel Pre S S0).segB J b k m = true := by kernel_rfl) (hM : blank ((l.drop k).take m) A' = blank ((l.drop k).take m) A := by kernel_rfl) : SqW (sq1 P l n k0 T Rel Pre S S0) ρ E k A :=
  .seg m J b A' hB hw hM h
/-- an operation that the row i tells of, not k0 -/
theorem SqW.o1 {k : Nat} {A : Act} (i : Nat) (b : Bool) (J : List Nat) {r : SqRow} {o : Oper} (hw : ∀ W, Rel W → (b = true → Pre W) → (sq1 P l n k0 T Rel Pre S S0).fj ρ W J → ∀ N : Value → World → Prop, (∀ v W', (∀ u, r.is = some u → v = u) → r.R v (ρ r.d) W' → S W W' → N v W') → loudUpon P N ((execOp A.eval o).run P W))
    (h : SqW (sq1 P l n k0 T Rel Pre S S0) ρ E (k + 1) (A.put o.dst (ρ k))) (hi : T[i]? = some r := by exact rfl) (ho : l[k]? = some o := by exact rfl) (hk : k ≠ k0 := by decide) (hB : (sq1 P l n k0 T Rel Pre S S0).rowB J b k i = true := by kernel_rfl) (hg : Region.wanted o (yielded l.toArray A.tmps) = true := by kernel_rfl) : SqW (sq1 P l n k0 T Rel Pre S S0) ρ E k A :=
  .row i J b r o hi ho hB (fun W x p f => loud_of hg (hw W x p f _ fun v W' h1 h2 h3 => ⟨h1, h2, by
    rw [if_neg (show ¬ k = (sq1 P l n k0 T Rel Pre S S0).k0 from hk)]
    exact h3⟩)) h
/-- k0 -/
theorem SqW.o0 {k : Nat} {A : Act} (i : Nat) (J : List Nat) {r : SqRow} {o : Oper} (hw : ∀ W, Rel W → Pre W → (sq1 P l n k0 T Rel Pre S S0).fj ρ W J → ∀ N : Value → World → Prop, (∀ v W', (∀ u, r.is = some u → v = u) → r.R v (ρ r.d) W' → Rel W' → S0 W W' → N v W') → loudUpon P N ((execOp A.eval o).run P W))
    (h : SqW (sq1 P l n k0 T Rel Pre S S0) ρ E (k + 1) (A.put o.dst (ρ k))) (hi : T[i]? = some r := by exact rfl) (ho : l[k]? = some o := by exact rfl) (hk : k = k0 := by exact rfl) (hB : (sq1 P l n k0 T Rel Pre S S0).rowB J true k i = true := by kernel_rfl) (hg : Region.wanted o (yielded l.toArray A.tmps) = true := by kernel_rfl) : SqW (sq1 P l n k0 T Rel Pre S S0) ρ E k A :=
  .row i J true r o hi ho hB (fun W x p f => loud_of hg (hw W x (p rfl) f _ fun v W' h1 h2 h3 h4 => ⟨h1, h2, by
    rw [if_pos (show k = (sq1 P l n k0 T Rel Pre S S0).k0 from hk)]
    exact ⟨h3, h4⟩⟩)) h
/-- a call whose value is known, not k0 -/
theorem SqW.kv1 {k : Nat} {A : Act} (hI : (sq1 P l n k0 T Rel Pre S S0).Is ρ) (i : Nat) (v : Value) {o : Oper} {f : FuncId} {args : Array Value} (hC : ∀ W, Rel W → Calls P f args W fun e W' => e = .returned v ∧ S W W') (h : SqW (sq1 P l n k0 T Rel Pre S S0) ρ E (k + 1) (A.put o.dst v))
    (hi : T[i]? = some (rwI k v) := by exact rfl) (ho : l[k]? = some o := by exact rfl) (hk : k ≠ k0 := by decide) (hB : (sq1 P l n k0 T Rel Pre S S0).rowB [] false k i = true := by kernel_rfl)
    (hg : Region.wanted o (yielded l.toArray A.tmps) = true := by kernel_rfl) (hrun : ∀ W, (execOp A.eval o).run P W = .ok (.enter f args) W := by intro W; go_simp) : SqW (sq1 P l n k0 T Rel Pre S S0) ρ E k A :=
  SqW.o1 i false [] (fun W x _ _ N hN => by
    rw [hrun W]
    exact (hC W x).mono fun e W' h => ⟨v, h.1, hN v W' (fun u e => Option.some.inj e) trivial h.2⟩) (by rw [show ρ k = v from hI (rwI k v) (List.mem_of_getElem? hi) v rfl]; exact h) hi ho hk hB hg
/-- a call, not k0 -/
theorem SqW.k1 {k : Nat} {A : Act} (i : Nat) {r : SqRow} {o : Oper} {f : FuncId} {args : Array Value} (hC : ∀ W, Rel W → Calls P f args W fun e W' => ∃ v, e = .returned v ∧ r.R v (ρ r.d) W' ∧ S W W') (h : SqW (sq1 P l n k0 T Rel Pre S S0) ρ E (k + 1) (A.put o.dst (ρ k)))
    (hi : T[i]? = some r := by exact rfl) (hr : r.is = none := by exact rfl) (ho : l[k]? = some o := by exact rfl) (hk : k ≠ k0 := by decide) (hB : (sq1 P l n k0 T Rel Pre S S0).rowB [] false k i = true := by kernel_rfl)
    (hg : Region.wanted o (yielded l.toArray A.tmps) = true := by kernel_rfl) (hrun : ∀ W, (execOp A.eval o).run P W = .ok (.enter f args) W := by intro W; go_simp) : SqW (sq1 P l n k0 T Rel Pre S S0) ρ E k A :=
  SqW.o1 i false [] (fun W x _ _ N hN => by
    rw [hrun W]
    refine (hC W x).mono fun e W' h => ?_
    obtain ⟨v, h1, h2, h3⟩ := h
    exact ⟨v, h1, hN v W' (fun u e => (by rw [hr] at e; cases e)) h2 h3⟩) h hi ho hk hB hg
end
theorem wp_sq1 {P : Program} {l : List Oper} (n k0 : Nat) (T : List SqRow) (Rel Pre : World → Prop) (S S0 : World → World → Prop) {Q : Exit → Act → World → Prop} {a : Act} {w : World} {id : Nat}
    (hw : Rel w.drew) (hp : Pre w.drew) (hR : ∀ W W', Rel W → S W W' → Rel W') (hP : ∀ W W', Pre W → S W W' → Pre W') (hmono : (sq1 P l n k0 T Rel Pre S S0).monoR T)
    (H : ∀ ρ, (sq1 P l n k0 T Rel Pre S S0).Is ρ → SqW (sq1 P l n k0 T Rel Pre S S0) ρ (fun B => ∀ W, Rel W → SqC.allR ρ W T → wpList P l.toArray Q (l.drop n) B W) 0 a)
    (hm : P.follows .mixedOrders = true := by kernel_rfl) (hform : sqForm l n a.tmps.size = true := by kernel_rfl) (hrows : (sq1 P l n k0 T Rel Pre S S0).rowsB = true := by kernel_rfl) : (Code.region id l.toArray true).wp P Q a w :=
  wp_sqC (sq1 P l n k0 T Rel Pre S S0) hm hform hrows hw hp hR hP hmono H
end Go.Proofs.Ytfcoidpkhggnpaa
