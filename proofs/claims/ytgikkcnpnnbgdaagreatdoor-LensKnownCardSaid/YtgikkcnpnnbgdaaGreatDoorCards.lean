/-
  DERIVED. GIVEN WITH THE SEED: THE CARDS: each row of YtgikkcnpnnbgdaaGreatDoorRows.lean that lists a variable, with what it lists TIED to the program's text (the seventh form; the later family's looks); each row that meets fmt, with fmt's text TOLD by the authors' own Lean function (tested against real Go, not proved from fmt's source: count such statements apart). THE CARD IS WHAT COUNTS. Prove the row's statement (the work); the ties are given (YtgikkcnpnnbgdaaGreatDoorTie.lean); close each card by the builder's one call (the guide's Derived/Test/ToyasCard.lean, 'card_holds'). Laid BY PROGRAM, IN A SANDBOX (cutbox-door.mjs). By AI agents, Wed Nov 11 2026. No macro, syntax, notation, axiom, sorry.
-/
import Derived.Test.YtgikkcnpnnbgdaaGreatDoorRows
import GoSem.ClaimSeven
namespace Go.Proofs.YtgikkcnpnnbgdaaGreatDoor
namespace Rows

/-- THE TIED CARD OF 'meniscuslaw12.LensKnown'. -/
def lensKnownCard : Claim7 := { stood := { row := lensKnownRow, standIns := [], harness := (true, "0882eaad99e6cead4166096837f0243c73750df206c560e2cb049d9b8a256cf5"), looks := false }, kinds := [], alts := [], laidByText := true, laidKinds := [.data, .data, .data, .data, .pinned], laidTests := true, laidLooks := .later }
def LensKnownCardSaid : Prop := Claim7.holds Tryz.pinned (.plain (OpenSpec.ofChange lensKnownSpec)) lensKnownCard

/-- THE TIED CARD OF 'meniscuslaw12.LensBack'. -/
def lensBackCard : Claim7 := { stood := { row := lensBackRow, standIns := [], harness := (true, "0882eaad99e6cead4166096837f0243c73750df206c560e2cb049d9b8a256cf5"), looks := false }, kinds := [], alts := [], laidByText := true, laidKinds := [.data, .data, .data, .data, .pinned], laidTests := true, laidLooks := .later }
def LensBackCardSaid : Prop := Claim7.holds Tryz.pinned (.plain (OpenSpec.ofChange lensBackSpec)) lensBackCard

/-- THE TIED CARD OF 'meniscuslaw12.LensWords'. -/
def lensWordsCard : Claim7 := { stood := { row := lensWordsRow, standIns := [], harness := (true, "0882eaad99e6cead4166096837f0243c73750df206c560e2cb049d9b8a256cf5"), looks := false }, kinds := [], alts := [], laidByText := true, laidKinds := [.data, .data, .data, .data, .pinned], laidTests := true, laidLooks := .later }
def LensWordsCardSaid : Prop := Claim7.holds Tryz.pinned (.plain (OpenSpec.ofChange lensWordsSpec)) lensWordsCard

/-- THE SECOND FORM's CARD OF 'meniscuslaw12.LensKnown'. -/
def lensKnownUptoCard : Claim7 := { stood := { row := lensKnownUptoRow, standIns := [], harness := (true, "0882eaad99e6cead4166096837f0243c73750df206c560e2cb049d9b8a256cf5"), looks := false }, kinds := [], alts := [], laidByText := true, laidKinds := [.data, .data, .data, .data, .pinned], laidTests := true, laidLooks := .later }
def LensKnownUptoCardSaid : Prop := Claim7.holds Tryz.pinned (.plain (OpenSpec.upto lensKnownSpec)) lensKnownUptoCard

/-- THE SECOND FORM's CARD OF 'meniscuslaw12.LensBack'. -/
def lensBackUptoCard : Claim7 := { stood := { row := lensBackUptoRow, standIns := [], harness := (true, "0882eaad99e6cead4166096837f0243c73750df206c560e2cb049d9b8a256cf5"), looks := false }, kinds := [], alts := [], laidByText := true, laidKinds := [.data, .data, .data, .data, .pinned], laidTests := true, laidLooks := .later }
def LensBackUptoCardSaid : Prop := Claim7.holds Tryz.pinned (.plain (OpenSpec.upto lensBackSpec)) lensBackUptoCard

/-- THE SECOND FORM's CARD OF 'meniscuslaw12.LensWords'. -/
def lensWordsUptoCard : Claim7 := { stood := { row := lensWordsUptoRow, standIns := [], harness := (true, "0882eaad99e6cead4166096837f0243c73750df206c560e2cb049d9b8a256cf5"), looks := false }, kinds := [], alts := [], laidByText := true, laidKinds := [.data, .data, .data, .data, .pinned], laidTests := true, laidLooks := .later }
def LensWordsUptoCardSaid : Prop := Claim7.holds Tryz.pinned (.plain (OpenSpec.upto lensWordsSpec)) lensWordsUptoCard
end Rows
end Go.Proofs.YtgikkcnpnnbgdaaGreatDoor
