/-
  What a change and the change back are, told of texts as bytes; no claim stands here.
-/
import Derived.Test.YtjjehncgenajfaaDoorDfK
namespace Go.Proofs.YtjjehncgenajfaaDoor
open Go.ChangeShapes Go.WideShapes Go.ChangeAt Go.RowKit Go.Sort
set_option linter.unusedVariables false

theorem encU_sub {l : List Nat} (i j : Nat) (h : i ≤ j) : (encU (l.take i)).length + (encU (l.drop j)).length ≤ (encU l).length := by
  have h1 : encU l = encU (l.take i) ++ (encU ((l.drop i).take (j - i)) ++ encU (l.drop j)) := by
    rw [← encU_app, ← encU_app]
    congr 1
    have : l.drop j = (l.drop i).drop (j - i) := by rw [List.drop_drop]; congr 1; omega
    rw [this, List.take_append_drop, List.take_append_drop]
  rw [h1, List.length_append, List.length_append]
  omega
theorem okC_take {l : List Nat} (h : ∀ n ∈ l, okCh (n : Int)) (k : Nat) : ∀ n ∈ l.take k, okCh (n : Int) := fun n hn => h n (List.mem_of_mem_take hn)
theorem okC_drop {l : List Nat} (h : ∀ n ∈ l, okCh (n : Int)) (k : Nat) : ∀ n ∈ l.drop k, okCh (n : Int) := fun n hn => h n (List.mem_of_mem_drop hn)
theorem okC_dfI {a b : List Nat} (h : ∀ n ∈ b, okCh (n : Int)) : ∀ n ∈ dfI a b, okCh (n : Int) := fun n hn => by
  unfold dfI at hn
  exact h n (List.mem_of_mem_take (List.mem_of_mem_drop hn))
/-- the text with a change done, as characters -/
theorem doB_is {s ins : List UInt8} (hi : Lib.validD ins = true) (i d : Nat) : doB s (i : Int) (d : Int) ins = encU (doN (runesD s) i d (runesD ins)) := by
  unfold doB doN
  rw [Int.toNat_natCast, Int.toNat_natCast, encU_app, encU_app, enc_dec _ ins (Nat.le_refl _) hi]
theorem okC_doN {a x : List Nat} (h : ∀ n ∈ a, okCh (n : Int)) (hx : ∀ n ∈ x, okCh (n : Int)) (i d : Nat) : ∀ n ∈ doN a i d x, okCh (n : Int) := fun n hn => by
  unfold doN at hn
  rcases List.mem_append.1 hn with hn | hn
  · rcases List.mem_append.1 hn with hn | hn
    · exact h n (List.mem_of_mem_take hn)
    · exact hx n hn
  · exact h n (List.mem_of_mem_drop hn)

/-- a change, and what is done of it -/
theorem df_one {s t : List UInt8} (hs : Lib.validD s = true) (ht : Lib.validD t = true) :
    ∃ (A D : Nat) (I : List UInt8), dfV s t = .tuple #[.agg #[Vi (A : Int), Vi (D : Int), Vs I], .bool (!decide (s = t))] ∧ Lib.validD I = true ∧ I.length ≤ t.length ∧ A ≤ s.length ∧ D ≤ s.length ∧
      doV s (A : Int) (D : Int) I = .tuple #[Vs t, errv 0] ∧ (s ≠ t → A = cpN (runesD s) (runesD t) ∧ D = dfD (runesD s) (runesD t) ∧ runesD I = dfI (runesD s) (runesD t)) ∧ (s = t → A = 0 ∧ D = 0 ∧ I = []) := by
  have oks := runes_okC _ s (Nat.le_refl _)
  have okt := runes_okC _ t (Nat.le_refl _)
  have hal := runesD_len s
  by_cases h : s = t
  · subst h
    refine ⟨0, 0, [], ?_, rfl, by simp, by omega, by omega, ?_, fun e => absurd rfl e, fun _ => ⟨rfl, rfl, rfl⟩⟩
    · unfold dfV
      rw [if_pos rfl]
      simp
    · unfold doV
      rw [if_pos (doOK_yes (by omega) (by omega) (by omega))]
      have : doB s ((0 : Nat) : Int) ((0 : Nat) : Int) [] = s := by
        rw [doB_is rfl]
        unfold doN
        rw [runesD_nil, List.take_zero, List.nil_append, List.nil_append, Nat.add_zero, List.drop_zero, enc_dec _ s (Nat.le_refl _) hs]
      rw [this]
  · have hI := dec_enc1 (okC_dfI (a := runesD s) okt)
    have hat := df_at (runesD s) (runesD t)
    refine ⟨cpN (runesD s) (runesD t), dfD (runesD s) (runesD t), encU (dfI (runesD s) (runesD t)), ?_, hI.1, ?_, by omega, by omega, ?_, fun _ => ⟨rfl, rfl, hI.2⟩, fun e => absurd e h⟩
    · unfold dfV
      rw [if_neg h, decide_eq_false h]
      rfl
    · have : encU (runesD t) = encU ((runesD t).take (cpN (runesD s) (runesD t))) ++ (encU (dfI (runesD s) (runesD t)) ++ encU ((runesD t).drop ((runesD t).length - csN (runesD s) (runesD t)))) := by
        rw [← encU_app, ← encU_app]
        congr 1
        have hl := cs_le (runesD s) (runesD t)
        unfold dfI
        have h1 : (runesD t).take (cpN (runesD s) (runesD t)) = ((runesD t).take ((runesD t).length - csN (runesD s) (runesD t))).take (cpN (runesD s) (runesD t)) := by rw [List.take_take, Nat.min_eq_left (by omega)]
        rw [h1, ← List.append_assoc, List.take_append_drop, List.take_append_drop]
      rw [enc_dec _ t (Nat.le_refl _) ht] at this
      rw [congrArg List.length this, List.length_append, List.length_append]
      omega
    · unfold doV
      rw [if_pos (doOK_yes (by omega) (by omega) (by omega)), doB_is hI.1, hI.2, do_of, enc_dec _ t (Nat.le_refl _) ht]
/-- a change and the change back -/
theorem df_both {s t : List UInt8} (hs : Lib.validD s = true) (ht : Lib.validD t = true) :
    ∃ (A D D' : Nat) (I I' : List UInt8) (b : Bool), b = (!decide (s = t)) ∧ dfV s t = .tuple #[.agg #[Vi (A : Int), Vi (D : Int), Vs I], .bool b] ∧ dfV t s = .tuple #[.agg #[Vi (A : Int), Vi (D' : Int), Vs I'], .bool b] ∧
      Lib.validD I = true ∧ I.length ≤ t.length ∧ A ≤ s.length ∧ D ≤ s.length ∧ Lib.validD I' = true ∧ I'.length ≤ s.length ∧ D' ≤ t.length ∧ doV s (A : Int) (D : Int) I = .tuple #[Vs t, errv 0] ∧ doV t (A : Int) (D' : Int) I' = .tuple #[Vs s, errv 0] ∧ D' = (runesD I).length := by
  obtain ⟨A, D, I, h1, h2, h3, h4, h5, h6, h7, h8⟩ := df_one hs ht
  obtain ⟨A', D', I', g1, g2, g3, g4, g5, g6, g7, g8⟩ := df_one ht hs
  have hb : (!decide (t = s)) = (!decide (s = t)) := by congr 2; exact propext ⟨Eq.symm, Eq.symm⟩
  rw [hb] at g1
  by_cases h : s = t
  · obtain ⟨rfl, rfl, rfl⟩ := h8 h
    obtain ⟨rfl, rfl, rfl⟩ := g8 h.symm
    exact ⟨0, 0, 0, [], [], _, rfl, h1, g1, h2, h3, h4, h5, g2, g3, g5, h6, g6, by rw [runesD_nil]; rfl⟩
  · obtain ⟨e1, e2, e3⟩ := h7 h
    obtain ⟨f1, f2, f3⟩ := g7 (Ne.symm h)
    have hbk := df_back (runesD s) (runesD t)
    have eA : A' = A := by rw [e1, f1]; exact hbk.1
    subst eA
    exact ⟨A', D, D', I, I', _, rfl, h1, g1, h2, h3, h4, h5, g2, g3, g5, h6, g6, by rw [f2, e3]; exact hbk.2⟩
/-- any change, done: the text then, and the change to it -/
theorem df_any {s ins : List UInt8} {at' del : Int} (hs : Lib.validD s = true) (hi : Lib.validD ins = true) (hok : doOK (runesD s).length at' del = true) :
    Lib.validD (doB s at' del ins) = true ∧ (doB s at' del ins).length ≤ s.length + ins.length ∧ 0 ≤ del ∧ ∃ (A D : Nat) (I : List UInt8) (b : Bool), dfV s (doB s at' del ins) = .tuple #[.agg #[Vi (A : Int), Vi (D : Int), Vs I], .bool b] ∧ (D : Int) ≤ del ∧ I.length ≤ ins.length := by
  unfold doOK at hok
  simp only [Bool.and_eq_true, decide_eq_true_eq] at hok
  obtain ⟨⟨k1, k2⟩, k3⟩ := hok
  obtain ⟨i, rfl⟩ : ∃ i : Nat, at' = i := ⟨at'.toNat, by omega⟩
  obtain ⟨d, rfl⟩ : ∃ i : Nat, del = i := ⟨del.toNat, by omega⟩
  have oks := runes_okC _ s (Nat.le_refl _)
  have oki := runes_okC _ ins (Nat.le_refl _)
  have hB := doB_is (s := s) hi i d
  have hU := dec_enc1 (okC_doN oks oki i d)
  rw [← hB] at hU
  have hlen : (doB s (i : Int) (d : Int) ins).length ≤ s.length + ins.length := by
    have h1 := encU_sub (l := runesD s) i (i + d) (by omega)
    rw [enc_dec _ s (Nat.le_refl _) hs] at h1
    unfold doB
    rw [Int.toNat_natCast, Int.toNat_natCast, List.length_append, List.length_append]
    omega
  obtain ⟨A, D, I, h1, h2, h3, h4, h5, h6, h7, h8⟩ := df_one hs hU.1
  refine ⟨hU.1, hlen, k2, A, D, I, _, h1, ?_, ?_⟩
  · by_cases h : s = doB s (i : Int) (d : Int) ins
    · rw [(h8 h).2.1]; omega
    · obtain ⟨e1, e2, e3⟩ := h7 h
      rw [e2, hU.2]
      have := (df_short (fun l => (encU l).length) (fun x y => by rw [encU_app, List.length_append]) (a := runesD s) (at' := i) (del := d) (runesD ins) (by omega)).1
      omega
  · by_cases h : s = doB s (i : Int) (d : Int) ins
    · rw [(h8 h).2.2]; exact Nat.zero_le _
    · obtain ⟨e1, e2, e3⟩ := h7 h
      have := (df_short (fun l => (encU l).length) (fun x y => by rw [encU_app, List.length_append]) (a := runesD s) (at' := i) (del := d) (runesD ins) (by omega)).2
      rw [enc_dec _ ins (Nat.le_refl _) hi] at this
      rw [hU.2] at e3
      rw [← e3, enc_dec _ I (Nat.le_refl _) h2] at this
      exact this

end Go.Proofs.YtjjehncgenajfaaDoor
