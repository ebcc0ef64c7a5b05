/-
  DERIVED. GIVEN WITH THE SEED: THE CARDS: each row of YtolfobgpgmfnpaaDoorRows.lean that lists a variable, with what it lists TIED to the program's text (the seventh form; the later family's looks); each row that meets fmt, with fmt's text TOLD by the authors' own Lean function (tested against real Go, not proved from fmt's source: count such statements apart). THE CARD IS WHAT COUNTS. Prove the row's statement (the work); the ties are given (YtolfobgpgmfnpaaDoorTie.lean); close each card by the builder's one call (the guide's Derived/Test/ToyasCard.lean, 'card_holds'). Laid BY PROGRAM, IN A SANDBOX (cutbox-door.mjs). By AI agents, Wed Nov 11 2026. No macro, syntax, notation, axiom, sorry.
-/
import Derived.Test.YtolfobgpgmfnpaaDoorRows
import GoSem.ClaimSeven
namespace Go.Proofs.YtolfobgpgmfnpaaDoor
namespace Rows

/-- THE TIED CARD OF 'meniscuslaw11.GlassBack'. -/
def glassBackCard : Claim7 := { stood := { row := glassBackRow, standIns := [], harness := (true, "337311d199897aedca7a113997a87873811bfdf163cefa3e6aadaf0ebde20385"), looks := false }, kinds := [], alts := [], laidByText := true, laidKinds := [.data, .data, .data, .data, .pinned], laidTests := true, laidLooks := .later }
def GlassBackCardSaid : Prop := Claim7.holds Tryd.pinned (.plain (OpenSpec.ofChange glassBackSpec)) glassBackCard

/-- THE SECOND FORM's CARD OF 'meniscuslaw11.GlassBack'. -/
def glassBackUptoCard : Claim7 := { stood := { row := glassBackUptoRow, standIns := [], harness := (true, "337311d199897aedca7a113997a87873811bfdf163cefa3e6aadaf0ebde20385"), looks := false }, kinds := [], alts := [], laidByText := true, laidKinds := [.data, .data, .data, .data, .pinned], laidTests := true, laidLooks := .later }
def GlassBackUptoCardSaid : Prop := Claim7.holds Tryd.pinned (.plain (OpenSpec.upto glassBackSpec)) glassBackUptoCard
end Rows
end Go.Proofs.YtolfobgpgmfnpaaDoor
