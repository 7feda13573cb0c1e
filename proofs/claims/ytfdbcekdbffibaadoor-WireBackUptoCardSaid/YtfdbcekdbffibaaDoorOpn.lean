/-
  What opens bytes that came in, and the tables of utf8's that the rows list; no claim stands here.
-/
import Derived.Test.YtfdbcekdbffibaaDoorCards
import Derived.Test.YtfdbcekdbffibaaDoorTie
import Derived.Test.YtfdbcekdbffibaaDoorVal
import Derived.Lib.LaidU8T
import Derived.Deep.DeepHandedRow
import Derived.Deep.SlicePairs
import Derived.Lay
import Derived.ChangeMaps5
import Derived.MakeChecks
namespace Go.Proofs.YtfdbcekdbffibaaDoor
open Go.ChangeShapes Go.WideShapes Go.ChangeAt Go.RowKit Go.Sort
set_option linter.unusedVariables false

/-- a slice of bytes, opened -/
theorem bytes_open {H : Type} {enc : TypeId × Value → H} {W : World} {base b0 : Nat} {sp : Nat → Bool} {hd : Bool} {r : Reach} {v : Value} {d : DataW H} {p : List MemPlace} (hv : Value.okWide Tryd.prog W r b0 23 v) (h : DataW.Trod enc Tryd.prog W base sp hd 23 v d p) :
    ∃ (A : Option Addr) (n cap : Nat) (l : List UInt8), v = .slice A n cap ∧ l.length = n ∧ n ≤ cap ∧ n ≤ maxLen ∧ Bys W A l := by
  obtain ⟨a, len, cap, rfl⟩ := okWide_slice Tryd.underlying23 hv
  obtain ⟨fuel, hf⟩ := h
  have hf' : DataW.trod enc Tryd.prog W base sp hd fuel 23 [.slice a len cap] = some (d, p) := hf
  have ce : Tryd.prog.cellsOf 5 = 1 := by kernel_rfl
  rcases Go.Deep.open_slice Tryd.underlying23 hf' with ⟨e, _⟩ | ⟨a', len', cap', m, n, D, Pl, e, _, hl, hm, hmm, _, hi⟩
  · injection e with e
    injection e with e1 e2 e3
    subst e1
    subst e2
    subst e3
    exact ⟨_, _, _, [], rfl, rfl, Nat.le_refl _, by omega, Bys.nil _ _⟩
  · injection e with e
    injection e with e1 e2 e3
    subst e1
    subst e2
    subst e3
    have hml : len ≤ m := by rw [hmm]; split <;> omega
    have hcell : ∀ i, i < len → ∃ q : UInt8, W.cell? (a'.add i) = some (Vb q) := by
      intro i hil
      obtain ⟨cs', h1, h2⟩ := hi i (by omega)
      rw [ce, Nat.mul_one] at h1
      obtain ⟨_, hlen, hc⟩ := World.cells?_some h1
      obtain ⟨x, t0, _, wx⟩ := DataW.trod_int Tryd.underlying5 h2
      have bx : 0 ≤ x ∧ x ≤ 255 := by simpa [Lit.wf, IntKind.min, IntKind.max, IntKind.signed, IntKind.bits] using wx
      have e0 := hc 0 (by omega)
      rw [Go.Deep.add_add, Nat.add_zero, t0] at e0
      refine ⟨UInt8.ofNat x.toNat, ?_⟩
      rw [e0, Vb, ofNat_val]
      have : ((x.toNat % 256 : Nat) : Int) = x := by omega
      rw [this]
      rfl
    obtain ⟨q, hq⟩ := Go.Deep.choose_lt hcell
    refine ⟨some a', len, cap, (List.range len).map q, rfl, by simp, hl, by omega, ?_⟩
    intro h0
    have hlen : 0 < len := by simpa using h0
    have g0 := hq 0 hlen
    obtain ⟨b, o, spot⟩ := a'
    have hspot : spot = none := by simpa [Addr.add] using World.cell?_spot g0
    subst hspot
    refine ⟨b, o, rfl, fun j u hu => ?_⟩
    have hj : j < len := by
      rcases Nat.lt_or_ge j len with k | k
      · exact k
      · rw [List.getElem?_eq_none (by simpa using k)] at hu; cases hu
    have := hq j hj
    rw [add_at] at this
    rw [this]
    simpa [List.getElem?_map, List.getElem?_range hj] using hu

/-- the tables that the rows list -/
def laidTabs : List (String × DataW Unit) := [("unicode/utf8.acceptRanges", Rows.laid_unicode_utf8_acceptRanges), ("unicode/utf8.first", Rows.laid_unicode_utf8_first)]
def renU : Go.Shelf.Ren := ⟨fun n => n, fun | 119 => 50 | 138 => 52 | 139 => 53 | 5 => 5 | n => n, fun | 3 => 0 | 4 => 1 | n => n⟩
theorem typesU : U8Types Tryd.prog renU := ⟨Tryd.underlying5, Tryd.underlying50, Tryd.underlying52, Tryd.underlying53⟩
theorem extraU : U8Extra Tryd.prog renU := ⟨by kernel_rfl, by kernel_rfl, by kernel_rfl, by kernel_rfl, by kernel_rfl, by kernel_rfl, by kernel_rfl⟩
theorem firstU : Rows.laid_unicode_utf8_first = Lib.firstData := by kernel_rfl
theorem acceptU : Rows.laid_unicode_utf8_acceptRanges = Lib.acceptData := by kernel_rfl
theorem tabs_of {W : World} (h : laidMet Tryd.prog laidTabs W) : Tabs W :=
  utf8Tabs_of_readsT typesU extraU (firstU ▸ Lib.laidMet.reads h (.tail _ (.head _))) (acceptU ▸ Lib.laidMet.reads h (.head _))

/-- a world for the witness, the tables laid -/
noncomputable def laidWorld (os : Os) : World := World.laidAll Tryd.prog os laidTabs
theorem laid_met (os : Os) (args : Array Value) : laidMet Tryd.prog laidTabs ((laidWorld os).forCall (fun _ _ => 0) ⟨#[], args, []⟩).memory := laidMet_laidAll _ (by kernel_rfl) (by kernel_rfl)

end Go.Proofs.YtfdbcekdbffibaaDoor
