/-
  DERIVED. GIVEN WITH THE SEED: THE CARDS: each row of YtgikjbmaahblpaaGreatDoorRows.lean that lists a variable, with what it lists TIED to the program's text (the seventh form; the later family's looks); each row that meets fmt, with fmt's text TOLD by the authors' own Lean function (tested against real Go, not proved from fmt's source: count such statements apart). THE CARD IS WHAT COUNTS. Prove the row's statement (the work); the ties are given (YtgikjbmaahblpaaGreatDoorTie.lean); close each card by the builder's one call (the guide's Derived/Test/ToyasCard.lean, 'card_holds'). Laid BY PROGRAM, IN A SANDBOX (cutbox-door.mjs). By AI agents, Wed Nov 11 2026. No macro, syntax, notation, axiom, sorry.
-/
import Derived.Test.YtgikjbmaahblpaaGreatDoorRows
import GoSem.ClaimSeven
namespace Go.Proofs.YtgikjbmaahblpaaGreatDoor
namespace Rows

/-- THE TIED CARD OF 'meniscuslaw12.LensBack'. -/
def lensBackCard : Claim7 := { stood := { row := lensBackRow, standIns := [], harness := (true, "f0a7d49243fe07b5fe49d07f7a23b742ed85eacbab683824800dc47ff48fd3d8"), looks := false }, kinds := [], alts := [], laidByText := true, laidKinds := [.data, .data, .data, .data, .pinned], laidTests := true, laidLooks := .later }
def LensBackCardSaid : Prop := Claim7.holds Tryz.pinned (.plain (OpenSpec.ofChange lensBackSpec)) lensBackCard

/-- THE TIED CARD OF 'meniscuslaw12.LensWords'. -/
def lensWordsCard : Claim7 := { stood := { row := lensWordsRow, standIns := [], harness := (true, "f0a7d49243fe07b5fe49d07f7a23b742ed85eacbab683824800dc47ff48fd3d8"), looks := false }, kinds := [], alts := [], laidByText := true, laidKinds := [.data, .data, .data, .data, .pinned], laidTests := true, laidLooks := .later }
def LensWordsCardSaid : Prop := Claim7.holds Tryz.pinned (.plain (OpenSpec.ofChange lensWordsSpec)) lensWordsCard

/-- THE TIED CARD OF 'meniscuslaw13.SystemKnown'. -/
def systemKnownCard : Claim7 := { stood := { row := systemKnownRow, standIns := [], harness := (true, "f0a7d49243fe07b5fe49d07f7a23b742ed85eacbab683824800dc47ff48fd3d8"), looks := false }, kinds := [], alts := [], laidByText := true, laidKinds := [.data, .data, .data, .data, .pinned], laidTests := true, laidLooks := .later }
def SystemKnownCardSaid : Prop := Claim7.holds Tryz.pinned (.plain (OpenSpec.ofChange systemKnownSpec)) systemKnownCard

/-- THE TIED CARD OF 'meniscuslaw13.SystemTells'. -/
def systemTellsCard : Claim7 := { stood := { row := systemTellsRow, standIns := [], harness := (true, "f0a7d49243fe07b5fe49d07f7a23b742ed85eacbab683824800dc47ff48fd3d8"), looks := false }, kinds := [], alts := [], laidByText := true, laidKinds := [.data, .data, .data, .data, .pinned], laidTests := true, laidLooks := .later }
def SystemTellsCardSaid : Prop := Claim7.holds Tryz.pinned (.plain (OpenSpec.ofChange systemTellsSpec)) systemTellsCard

/-- THE TIED CARD OF 'meniscuslaw13.SystemLess'. -/
def systemLessCard : Claim7 := { stood := { row := systemLessRow, standIns := [], harness := (true, "f0a7d49243fe07b5fe49d07f7a23b742ed85eacbab683824800dc47ff48fd3d8"), looks := false }, kinds := [], alts := [], laidByText := true, laidKinds := [.data, .data, .data, .data, .pinned], laidTests := true, laidLooks := .later }
def SystemLessCardSaid : Prop := Claim7.holds Tryz.pinned (.plain (OpenSpec.ofChange systemLessSpec)) systemLessCard

/-- THE TIED CARD OF 'meniscuslaw13.SystemStops'. -/
def systemStopsCard : Claim7 := { stood := { row := systemStopsRow, standIns := [], harness := (true, "f0a7d49243fe07b5fe49d07f7a23b742ed85eacbab683824800dc47ff48fd3d8"), looks := false }, kinds := [], alts := [], laidByText := true, laidKinds := [.data, .data, .data, .data, .pinned], laidTests := true, laidLooks := .later }
def SystemStopsCardSaid : Prop := Claim7.holds Tryz.pinned (.plain (OpenSpec.ofChange systemStopsSpec)) systemStopsCard

/-- THE SECOND FORM's CARD OF 'meniscuslaw12.LensBack'. -/
def lensBackUptoCard : Claim7 := { stood := { row := lensBackUptoRow, standIns := [], harness := (true, "f0a7d49243fe07b5fe49d07f7a23b742ed85eacbab683824800dc47ff48fd3d8"), looks := false }, kinds := [], alts := [], laidByText := true, laidKinds := [.data, .data, .data, .data, .pinned], laidTests := true, laidLooks := .later }
def LensBackUptoCardSaid : Prop := Claim7.holds Tryz.pinned (.plain (OpenSpec.upto lensBackSpec)) lensBackUptoCard

/-- THE SECOND FORM's CARD OF 'meniscuslaw12.LensWords'. -/
def lensWordsUptoCard : Claim7 := { stood := { row := lensWordsUptoRow, standIns := [], harness := (true, "f0a7d49243fe07b5fe49d07f7a23b742ed85eacbab683824800dc47ff48fd3d8"), looks := false }, kinds := [], alts := [], laidByText := true, laidKinds := [.data, .data, .data, .data, .pinned], laidTests := true, laidLooks := .later }
def LensWordsUptoCardSaid : Prop := Claim7.holds Tryz.pinned (.plain (OpenSpec.upto lensWordsSpec)) lensWordsUptoCard

/-- THE SECOND FORM's CARD OF 'meniscuslaw13.SystemKnown'. -/
def systemKnownUptoCard : Claim7 := { stood := { row := systemKnownUptoRow, standIns := [], harness := (true, "f0a7d49243fe07b5fe49d07f7a23b742ed85eacbab683824800dc47ff48fd3d8"), looks := false }, kinds := [], alts := [], laidByText := true, laidKinds := [.data, .data, .data, .data, .pinned], laidTests := true, laidLooks := .later }
def SystemKnownUptoCardSaid : Prop := Claim7.holds Tryz.pinned (.plain (OpenSpec.upto systemKnownSpec)) systemKnownUptoCard

/-- THE SECOND FORM's CARD OF 'meniscuslaw13.SystemTells'. -/
def systemTellsUptoCard : Claim7 := { stood := { row := systemTellsUptoRow, standIns := [], harness := (true, "f0a7d49243fe07b5fe49d07f7a23b742ed85eacbab683824800dc47ff48fd3d8"), looks := false }, kinds := [], alts := [], laidByText := true, laidKinds := [.data, .data, .data, .data, .pinned], laidTests := true, laidLooks := .later }
def SystemTellsUptoCardSaid : Prop := Claim7.holds Tryz.pinned (.plain (OpenSpec.upto systemTellsSpec)) systemTellsUptoCard

/-- THE SECOND FORM's CARD OF 'meniscuslaw13.SystemLess'. -/
def systemLessUptoCard : Claim7 := { stood := { row := systemLessUptoRow, standIns := [], harness := (true, "f0a7d49243fe07b5fe49d07f7a23b742ed85eacbab683824800dc47ff48fd3d8"), looks := false }, kinds := [], alts := [], laidByText := true, laidKinds := [.data, .data, .data, .data, .pinned], laidTests := true, laidLooks := .later }
def SystemLessUptoCardSaid : Prop := Claim7.holds Tryz.pinned (.plain (OpenSpec.upto systemLessSpec)) systemLessUptoCard

/-- THE SECOND FORM's CARD OF 'meniscuslaw13.SystemStops'. -/
def systemStopsUptoCard : Claim7 := { stood := { row := systemStopsUptoRow, standIns := [], harness := (true, "f0a7d49243fe07b5fe49d07f7a23b742ed85eacbab683824800dc47ff48fd3d8"), looks := false }, kinds := [], alts := [], laidByText := true, laidKinds := [.data, .data, .data, .data, .pinned], laidTests := true, laidLooks := .later }
def SystemStopsUptoCardSaid : Prop := Claim7.holds Tryz.pinned (.plain (OpenSpec.upto systemStopsSpec)) systemStopsUptoCard
end Rows
end Go.Proofs.YtgikjbmaahblpaaGreatDoor
