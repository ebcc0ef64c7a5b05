/-
  DERIVED. GIVEN WITH THE SEED: THE CARDS: each row of YtolfobgpgmfnpaaGreatDoorRows.lean that lists a variable, with what it lists TIED to the program's text (the seventh form; the later family's looks); each row that meets fmt, with fmt's text TOLD by the authors' own Lean function (tested against real Go, not proved from fmt's source: count such statements apart). THE CARD IS WHAT COUNTS. Prove the row's statement (the work); the ties are given (YtolfobgpgmfnpaaGreatDoorTie.lean); close each card by the builder's one call (the guide's Derived/Test/ToyasCard.lean, 'card_holds'). Laid BY PROGRAM, IN A SANDBOX (cutbox-door.mjs). By AI agents, Wed Nov 11 2026. No macro, syntax, notation, axiom, sorry.
-/
import Derived.Test.YtolfobgpgmfnpaaGreatDoorRows
import GoSem.ClaimSeven
namespace Go.Proofs.YtolfobgpgmfnpaaGreatDoor
namespace Rows

/-- THE TIED CARD OF 'meniscuslaw11.GlassKnown'. -/
def glassKnownCard : Claim7 := { stood := { row := glassKnownRow, standIns := [], harness := (true, "23cb580ce1cf981b00297dc10403e6267fe1e3b1d772897078925a0278c17fea"), looks := false }, kinds := [], alts := [], laidByText := true, laidKinds := [.data, .data, .data, .data, .pinned], laidTests := true, laidLooks := .later }
def GlassKnownCardSaid : Prop := Claim7.holds Tryz.pinned (.plain (OpenSpec.ofChange glassKnownSpec)) glassKnownCard

/-- THE TIED CARD OF 'meniscuslaw11.GlassIndex'. -/
def glassIndexCard : Claim7 := { stood := { row := glassIndexRow, standIns := [], harness := (true, "23cb580ce1cf981b00297dc10403e6267fe1e3b1d772897078925a0278c17fea"), looks := false }, kinds := [], alts := [], laidByText := true, laidKinds := [.data, .data, .data, .data, .pinned], laidTests := true, laidLooks := .later }
def GlassIndexCardSaid : Prop := Claim7.holds Tryz.pinned (.plain (OpenSpec.ofChange glassIndexSpec)) glassIndexCard

/-- THE TIED CARD OF 'meniscuslaw11.GlassLess'. -/
def glassLessCard : Claim7 := { stood := { row := glassLessRow, standIns := [], harness := (true, "23cb580ce1cf981b00297dc10403e6267fe1e3b1d772897078925a0278c17fea"), looks := false }, kinds := [], alts := [], laidByText := true, laidKinds := [.data, .data, .data, .data, .pinned], laidTests := true, laidLooks := .later }
def GlassLessCardSaid : Prop := Claim7.holds Tryz.pinned (.plain (OpenSpec.ofChange glassLessSpec)) glassLessCard

/-- THE TIED CARD OF 'meniscuslaw11.GlassSums'. -/
def glassSumsCard : Claim7 := { stood := { row := glassSumsRow, standIns := [], harness := (true, "23cb580ce1cf981b00297dc10403e6267fe1e3b1d772897078925a0278c17fea"), looks := false }, kinds := [], alts := [], laidByText := true, laidKinds := [.data, .data, .data, .data, .pinned], laidTests := true, laidLooks := .later }
def GlassSumsCardSaid : Prop := Claim7.holds Tryz.pinned (.plain (OpenSpec.ofChange glassSumsSpec)) glassSumsCard

/-- THE SECOND FORM's CARD OF 'meniscuslaw11.GlassKnown'. -/
def glassKnownUptoCard : Claim7 := { stood := { row := glassKnownUptoRow, standIns := [], harness := (true, "23cb580ce1cf981b00297dc10403e6267fe1e3b1d772897078925a0278c17fea"), looks := false }, kinds := [], alts := [], laidByText := true, laidKinds := [.data, .data, .data, .data, .pinned], laidTests := true, laidLooks := .later }
def GlassKnownUptoCardSaid : Prop := Claim7.holds Tryz.pinned (.plain (OpenSpec.upto glassKnownSpec)) glassKnownUptoCard

/-- THE SECOND FORM's CARD OF 'meniscuslaw11.GlassIndex'. -/
def glassIndexUptoCard : Claim7 := { stood := { row := glassIndexUptoRow, standIns := [], harness := (true, "23cb580ce1cf981b00297dc10403e6267fe1e3b1d772897078925a0278c17fea"), looks := false }, kinds := [], alts := [], laidByText := true, laidKinds := [.data, .data, .data, .data, .pinned], laidTests := true, laidLooks := .later }
def GlassIndexUptoCardSaid : Prop := Claim7.holds Tryz.pinned (.plain (OpenSpec.upto glassIndexSpec)) glassIndexUptoCard

/-- THE SECOND FORM's CARD OF 'meniscuslaw11.GlassLess'. -/
def glassLessUptoCard : Claim7 := { stood := { row := glassLessUptoRow, standIns := [], harness := (true, "23cb580ce1cf981b00297dc10403e6267fe1e3b1d772897078925a0278c17fea"), looks := false }, kinds := [], alts := [], laidByText := true, laidKinds := [.data, .data, .data, .data, .pinned], laidTests := true, laidLooks := .later }
def GlassLessUptoCardSaid : Prop := Claim7.holds Tryz.pinned (.plain (OpenSpec.upto glassLessSpec)) glassLessUptoCard

/-- THE SECOND FORM's CARD OF 'meniscuslaw11.GlassSums'. -/
def glassSumsUptoCard : Claim7 := { stood := { row := glassSumsUptoRow, standIns := [], harness := (true, "23cb580ce1cf981b00297dc10403e6267fe1e3b1d772897078925a0278c17fea"), looks := false }, kinds := [], alts := [], laidByText := true, laidKinds := [.data, .data, .data, .data, .pinned], laidTests := true, laidLooks := .later }
def GlassSumsUptoCardSaid : Prop := Claim7.holds Tryz.pinned (.plain (OpenSpec.upto glassSumsSpec)) glassSumsUptoCard
end Rows
end Go.Proofs.YtolfobgpgmfnpaaGreatDoor
