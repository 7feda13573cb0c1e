/-
  DERIVED. GIVEN WITH THE SEED: THE CARDS: each row of YtjjehncgenajfaaDoorRows.lean that lists a variable, with what it lists TIED to the program's text (the seventh form; the later family's looks); each row that meets fmt, with fmt's text TOLD by the authors' own Lean function (tested against real Go, not proved from fmt's source: count such statements apart). THE CARD IS WHAT COUNTS. Prove the row's statement (the work); the ties are given (YtjjehncgenajfaaDoorTie.lean); close each card by the builder's one call (the guide's Derived/Test/ToyasCard.lean, 'card_holds'). Laid BY PROGRAM, IN A SANDBOX (cutbox-door.mjs). By AI agents, Wed Nov 11 2026. No macro, syntax, notation, axiom, sorry.
-/
import Derived.Test.YtjjehncgenajfaaDoorRows
import GoSem.ClaimSeven
namespace Go.Proofs.YtjjehncgenajfaaDoor
namespace Rows

/-- THE TIED CARD OF 'surcinglelaw12.DiffTells'. -/
def diffTellsCard : Claim7 := { stood := { row := diffTellsRow, standIns := [], harness := (true, "2e31a892ea99ff33caea0820740fb9720d2f84c7162fde373e06b1fc1ad9cdf7"), looks := true }, kinds := [], alts := [], laidByText := true, laidKinds := [.data, .pinned], laidTests := true, laidLooks := .later }
def DiffTellsCardSaid : Prop := Claim7.holds Tryd.pinned (.plain (OpenSpec.ofChange diffTellsSpec)) diffTellsCard

/-- THE TIED CARD OF 'surcinglelaw12.DiffDone'. -/
def diffDoneCard : Claim7 := { stood := { row := diffDoneRow, standIns := [], harness := (true, "2e31a892ea99ff33caea0820740fb9720d2f84c7162fde373e06b1fc1ad9cdf7"), looks := true }, kinds := [], alts := [], laidByText := true, laidKinds := [.data, .pinned], laidTests := true, laidLooks := .later }
def DiffDoneCardSaid : Prop := Claim7.holds Tryd.pinned (.plain (OpenSpec.ofChange diffDoneSpec)) diffDoneCard

/-- THE SECOND FORM's CARD OF 'surcinglelaw12.DiffTells'. -/
def diffTellsUptoCard : Claim7 := { stood := { row := diffTellsUptoRow, standIns := [], harness := (true, "2e31a892ea99ff33caea0820740fb9720d2f84c7162fde373e06b1fc1ad9cdf7"), looks := true }, kinds := [], alts := [], laidByText := true, laidKinds := [.data, .pinned], laidTests := true, laidLooks := .later }
def DiffTellsUptoCardSaid : Prop := Claim7.holds Tryd.pinned (.plain (OpenSpec.upto diffTellsSpec)) diffTellsUptoCard

/-- THE SECOND FORM's CARD OF 'surcinglelaw12.DiffDone'. -/
def diffDoneUptoCard : Claim7 := { stood := { row := diffDoneUptoRow, standIns := [], harness := (true, "2e31a892ea99ff33caea0820740fb9720d2f84c7162fde373e06b1fc1ad9cdf7"), looks := true }, kinds := [], alts := [], laidByText := true, laidKinds := [.data, .pinned], laidTests := true, laidLooks := .later }
def DiffDoneUptoCardSaid : Prop := Claim7.holds Tryd.pinned (.plain (OpenSpec.upto diffDoneSpec)) diffDoneUptoCard
end Rows
end Go.Proofs.YtjjehncgenajfaaDoor
