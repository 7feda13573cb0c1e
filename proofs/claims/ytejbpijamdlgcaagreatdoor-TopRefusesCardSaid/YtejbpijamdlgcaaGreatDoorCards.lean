/-
  DERIVED. GIVEN WITH THE SEED: THE CARDS: each row of YtejbpijamdlgcaaGreatDoorRows.lean that lists a variable, with what it lists TIED to the program's text (the seventh form; the later family's looks); each row that meets fmt, with fmt's text TOLD by the authors' own Lean function (tested against real Go, not proved from fmt's source: count such statements apart). THE CARD IS WHAT COUNTS. Prove the row's statement (the work); the ties are given (YtejbpijamdlgcaaGreatDoorTie.lean); close each card by the builder's one call (the guide's Derived/Test/ToyasCard.lean, 'card_holds'). Laid BY PROGRAM, IN A SANDBOX (cutbox-door.mjs). By AI agents, Wed Nov 11 2026. No macro, syntax, notation, axiom, sorry.
-/
import Derived.Test.YtejbpijamdlgcaaGreatDoorRows
import GoSem.ClaimSeven
namespace Go.Proofs.YtejbpijamdlgcaaGreatDoor
namespace Rows

/-- THE TIED CARD OF 'surcingletop.TopMeets'. -/
def topMeetsCard : Claim7 := { stood := { row := topMeetsRow, standIns := [], harness := (true, "8d84f7d5fffdb007d3d83c8b23e676ba13e2683971ed83e838aeafd3cee682c7"), looks := true }, kinds := [], alts := [], laidByText := true, laidKinds := [.data, .handle, .pinned], laidTests := true, laidLooks := .later }
def TopMeetsCardSaid : Prop := Claim7.holds Tryz.pinned (.plain (OpenSpec.ofChange topMeetsSpec)) topMeetsCard

/-- THE TIED CARD OF 'surcingletop.TopOrders'. -/
def topOrdersCard : Claim7 := { stood := { row := topOrdersRow, standIns := [], harness := (true, "8d84f7d5fffdb007d3d83c8b23e676ba13e2683971ed83e838aeafd3cee682c7"), looks := true }, kinds := [], alts := [], laidByText := true, laidKinds := [.data, .handle, .pinned], laidTests := true, laidLooks := .later }
def TopOrdersCardSaid : Prop := Claim7.holds Tryz.pinned (.plain (OpenSpec.ofChange topOrdersSpec)) topOrdersCard

/-- THE TIED CARD OF 'surcingletop.TopRefuses'. -/
def topRefusesCard : Claim7 := { stood := { row := topRefusesRow, standIns := [], harness := (true, "8d84f7d5fffdb007d3d83c8b23e676ba13e2683971ed83e838aeafd3cee682c7"), looks := true }, kinds := [], alts := [], laidByText := true, laidKinds := [.data, .handle, .pinned], laidTests := true, laidLooks := .later }
def TopRefusesCardSaid : Prop := Claim7.holds Tryz.pinned (.plain (OpenSpec.ofChange topRefusesSpec)) topRefusesCard

/-- THE SECOND FORM's CARD OF 'surcingletop.TopMeets'. -/
def topMeetsUptoCard : Claim7 := { stood := { row := topMeetsUptoRow, standIns := [], harness := (true, "8d84f7d5fffdb007d3d83c8b23e676ba13e2683971ed83e838aeafd3cee682c7"), looks := true }, kinds := [], alts := [], laidByText := true, laidKinds := [.data, .handle, .pinned], laidTests := true, laidLooks := .later }
def TopMeetsUptoCardSaid : Prop := Claim7.holds Tryz.pinned (.plain (OpenSpec.upto topMeetsSpec)) topMeetsUptoCard

/-- THE SECOND FORM's CARD OF 'surcingletop.TopOrders'. -/
def topOrdersUptoCard : Claim7 := { stood := { row := topOrdersUptoRow, standIns := [], harness := (true, "8d84f7d5fffdb007d3d83c8b23e676ba13e2683971ed83e838aeafd3cee682c7"), looks := true }, kinds := [], alts := [], laidByText := true, laidKinds := [.data, .handle, .pinned], laidTests := true, laidLooks := .later }
def TopOrdersUptoCardSaid : Prop := Claim7.holds Tryz.pinned (.plain (OpenSpec.upto topOrdersSpec)) topOrdersUptoCard

/-- THE SECOND FORM's CARD OF 'surcingletop.TopRefuses'. -/
def topRefusesUptoCard : Claim7 := { stood := { row := topRefusesUptoRow, standIns := [], harness := (true, "8d84f7d5fffdb007d3d83c8b23e676ba13e2683971ed83e838aeafd3cee682c7"), looks := true }, kinds := [], alts := [], laidByText := true, laidKinds := [.data, .handle, .pinned], laidTests := true, laidLooks := .later }
def TopRefusesUptoCardSaid : Prop := Claim7.holds Tryz.pinned (.plain (OpenSpec.upto topRefusesSpec)) topRefusesUptoCard
end Rows
end Go.Proofs.YtejbpijamdlgcaaGreatDoor
