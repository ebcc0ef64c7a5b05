/-
  DERIVED. GIVEN WITH THE SEED: THE CARDS: each row of YtekhhekkepijoaaGreatDoorRows.lean that lists a variable, with what it lists TIED to the program's text (the seventh form; the later family's looks); each row that meets fmt, with fmt's text TOLD by the authors' own Lean function (tested against real Go, not proved from fmt's source: count such statements apart). THE CARD IS WHAT COUNTS. Prove the row's statement (the work); the ties are given (YtekhhekkepijoaaGreatDoorTie.lean); close each card by the builder's one call (the guide's Derived/Test/ToyasCard.lean, 'card_holds'). Laid BY PROGRAM, IN A SANDBOX (cutbox-door.mjs). By AI agents, Wed Nov 11 2026. No macro, syntax, notation, axiom, sorry.
-/
import Derived.Test.YtekhhekkepijoaaGreatDoorRows
import GoSem.ClaimSeven
namespace Go.Proofs.YtekhhekkepijoaaGreatDoor
namespace Rows

/-- THE TIED CARD OF 'meniscuslaw13.SystemKnown'. -/
def systemKnownCard : Claim7 := { stood := { row := systemKnownRow, standIns := [], harness := (true, "9d1bac133a5efde11e45db770854f386e40e8e7a6f19679979f9dec9f486d866"), looks := false }, kinds := [], alts := [], laidByText := true, laidKinds := [.data, .data, .data, .data, .pinned], laidTests := true, laidLooks := .later }
def SystemKnownCardSaid : Prop := Claim7.holds Tryz.pinned (.plain (OpenSpec.ofChange systemKnownSpec)) systemKnownCard

/-- THE TIED CARD OF 'meniscuslaw13.SystemStops'. -/
def systemStopsCard : Claim7 := { stood := { row := systemStopsRow, standIns := [], harness := (true, "9d1bac133a5efde11e45db770854f386e40e8e7a6f19679979f9dec9f486d866"), looks := false }, kinds := [], alts := [], laidByText := true, laidKinds := [.data, .data, .data, .data, .pinned], laidTests := true, laidLooks := .later }
def SystemStopsCardSaid : Prop := Claim7.holds Tryz.pinned (.plain (OpenSpec.ofChange systemStopsSpec)) systemStopsCard

/-- THE SECOND FORM's CARD OF 'meniscuslaw13.SystemKnown'. -/
def systemKnownUptoCard : Claim7 := { stood := { row := systemKnownUptoRow, standIns := [], harness := (true, "9d1bac133a5efde11e45db770854f386e40e8e7a6f19679979f9dec9f486d866"), looks := false }, kinds := [], alts := [], laidByText := true, laidKinds := [.data, .data, .data, .data, .pinned], laidTests := true, laidLooks := .later }
def SystemKnownUptoCardSaid : Prop := Claim7.holds Tryz.pinned (.plain (OpenSpec.upto systemKnownSpec)) systemKnownUptoCard

/-- THE SECOND FORM's CARD OF 'meniscuslaw13.SystemStops'. -/
def systemStopsUptoCard : Claim7 := { stood := { row := systemStopsUptoRow, standIns := [], harness := (true, "9d1bac133a5efde11e45db770854f386e40e8e7a6f19679979f9dec9f486d866"), looks := false }, kinds := [], alts := [], laidByText := true, laidKinds := [.data, .data, .data, .data, .pinned], laidTests := true, laidLooks := .later }
def SystemStopsUptoCardSaid : Prop := Claim7.holds Tryz.pinned (.plain (OpenSpec.upto systemStopsSpec)) systemStopsUptoCard
end Rows
end Go.Proofs.YtekhhekkepijoaaGreatDoor
