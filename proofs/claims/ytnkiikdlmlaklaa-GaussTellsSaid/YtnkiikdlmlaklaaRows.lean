/-
  No cell of these rows narrows 'for every input' (looked for: loops, veiled, ifaces, maps, wideKeys, modest, calm, conditions, laid).
  DERIVED. THE GIVEN ROWS OF THIS SEAT. 5 by the template 'for every input the law returns true; each argument reads behind the call as it read before'; 0 by the template 'total and deterministic' (their statements: YtnkiikdlmlaklaaTotals.lean).
  GIVEN WITH THE SEED: the statements are not yours to turn. If you find one false, say at which input.
  Laid BY PROGRAM, IN A SANDBOX (cutbox-rows.mjs): the forced cells as the released guide's own fill.sh prints them over the translation ca37b431364a23ee… (all of the seat's roots in one cut). By AI agents, Wed Nov 11 2026. No macro, syntax, notation, axiom, sorry.
-/
import Derived.Test.YtnkiikdlmlaklaaChecked
import GoSem.Claim
import GoSem.ClaimJoined
import GoSem.ClaimMapViews
import Derived.JoinedTies
import Derived.KernelRfl
namespace Go.Proofs.Ytnkiikdlmlaklaa
/- THE CELL 'sum', in the pinned program and in every row, IS THE sha256 OF THE DUMP (.gsa) THAT YtnkiikdlmlaklaaProg.lean LOADS. Nothing in Lean hashes anything: it is a label: what it is worth is what the hold of that sum in a sandbox is worth. -/
noncomputable def Try.pinned : Pinned := { name := "ytnkiikdlmlaklaa", sum := "ca37b431364a23ee37c47d9c6693bd69caf7740e4261e2a199de3c9d60bd356d", checked := Try.checked }
namespace Rows
def none {H : Type} : Left H := { results := [], args := [] }

/-- 'meniscuslaw8.GaussKnown': WHATEVER THE INPUT: true; the input reads as it did. -/
def gaussKnownSpec : ChangeSpec := { name := "gaussKnown", fn := fun _ => fun
  | [] => { results := [.lit (.bool true)], args := [] }
  | _ => none }
def gaussKnownRow : OpenClaim := { program := "ytnkiikdlmlaklaa", sum := "ca37b431364a23ee37c47d9c6693bd69caf7740e4261e2a199de3c9d60bd356d", func := "meniscus/meniscuslaw8.GaussKnown", spec := "gaussKnown", inPlace := ["math.archTrunc", "math.Float64bits", "math.Float64frombits"], apart := false }
def GaussKnownSaid : Prop := gaussKnownRow.holds Try.pinned (OpenSpec.ofChange gaussKnownSpec)

/-- ITS FALSE NEIGHBOUR: 'it returns false'. Refute it at one input. -/
def gaussKnownWrong : ChangeSpec := { name := "gaussKnown", fn := fun _ => fun
  | [] => { results := [.lit (.bool false)], args := [] }
  | _ => none }
def GaussKnownWrongFalsely : Prop := gaussKnownRow.holds Try.pinned (OpenSpec.ofChange gaussKnownWrong)

/-- 'meniscuslaw8.GaussTells': WHATEVER THE INPUT: true; the input reads as it did. -/
def gaussTellsSpec : ChangeSpec := { name := "gaussTells", fn := fun _ => fun
  | [d1, d2, d3, d4, d5, d6] => { results := [.lit (.bool true)], args := [d1, d2, d3, d4, d5, d6] }
  | _ => none }
def gaussTellsRow : OpenClaim := { program := "ytnkiikdlmlaklaa", sum := "ca37b431364a23ee37c47d9c6693bd69caf7740e4261e2a199de3c9d60bd356d", func := "meniscus/meniscuslaw8.GaussTells", spec := "gaussTells", inPlace := ["math.archTrunc", "math.Float64bits", "math.Float64frombits"], apart := false }
def GaussTellsSaid : Prop := gaussTellsRow.holds Try.pinned (OpenSpec.ofChange gaussTellsSpec)

/-- ITS FALSE NEIGHBOUR: 'it returns false'. Refute it at one input. -/
def gaussTellsWrong : ChangeSpec := { name := "gaussTells", fn := fun _ => fun
  | [d1, d2, d3, d4, d5, d6] => { results := [.lit (.bool false)], args := [d1, d2, d3, d4, d5, d6] }
  | _ => none }
def GaussTellsWrongFalsely : Prop := gaussTellsRow.holds Try.pinned (OpenSpec.ofChange gaussTellsWrong)

/-- 'meniscuslaw8.GaussTurns': WHATEVER THE INPUT: true; the input reads as it did. -/
def gaussTurnsSpec : ChangeSpec := { name := "gaussTurns", fn := fun _ => fun
  | [d1, d2, d3, d4, d5, d6] => { results := [.lit (.bool true)], args := [d1, d2, d3, d4, d5, d6] }
  | _ => none }
def gaussTurnsRow : OpenClaim := { program := "ytnkiikdlmlaklaa", sum := "ca37b431364a23ee37c47d9c6693bd69caf7740e4261e2a199de3c9d60bd356d", func := "meniscus/meniscuslaw8.GaussTurns", spec := "gaussTurns", inPlace := ["math.archTrunc", "math.Float64bits", "math.Float64frombits"], apart := false }
def GaussTurnsSaid : Prop := gaussTurnsRow.holds Try.pinned (OpenSpec.ofChange gaussTurnsSpec)

/-- ITS FALSE NEIGHBOUR: 'it returns false'. Refute it at one input. -/
def gaussTurnsWrong : ChangeSpec := { name := "gaussTurns", fn := fun _ => fun
  | [d1, d2, d3, d4, d5, d6] => { results := [.lit (.bool false)], args := [d1, d2, d3, d4, d5, d6] }
  | _ => none }
def GaussTurnsWrongFalsely : Prop := gaussTurnsRow.holds Try.pinned (OpenSpec.ofChange gaussTurnsWrong)

/-- 'meniscuslaw8.GaussDiscs': WHATEVER THE INPUT: true; the input reads as it did. -/
def gaussDiscsSpec : ChangeSpec := { name := "gaussDiscs", fn := fun _ => fun
  | [d1, d2, d3] => { results := [.lit (.bool true)], args := [d1, d2, d3] }
  | _ => none }
def gaussDiscsRow : OpenClaim := { program := "ytnkiikdlmlaklaa", sum := "ca37b431364a23ee37c47d9c6693bd69caf7740e4261e2a199de3c9d60bd356d", func := "meniscus/meniscuslaw8.GaussDiscs", spec := "gaussDiscs", inPlace := ["math.archTrunc", "math.Float64bits", "math.Float64frombits"], apart := false }
def GaussDiscsSaid : Prop := gaussDiscsRow.holds Try.pinned (OpenSpec.ofChange gaussDiscsSpec)

/-- ITS FALSE NEIGHBOUR: 'it returns false'. Refute it at one input. -/
def gaussDiscsWrong : ChangeSpec := { name := "gaussDiscs", fn := fun _ => fun
  | [d1, d2, d3] => { results := [.lit (.bool false)], args := [d1, d2, d3] }
  | _ => none }
def GaussDiscsWrongFalsely : Prop := gaussDiscsRow.holds Try.pinned (OpenSpec.ofChange gaussDiscsWrong)

/-- 'meniscuslaw8.GaussBeams': WHATEVER THE INPUT: true; the input reads as it did. -/
def gaussBeamsSpec : ChangeSpec := { name := "gaussBeams", fn := fun _ => fun
  | [d1, d2, d3, d4, d5, d6] => { results := [.lit (.bool true)], args := [d1, d2, d3, d4, d5, d6] }
  | _ => none }
def gaussBeamsRow : OpenClaim := { program := "ytnkiikdlmlaklaa", sum := "ca37b431364a23ee37c47d9c6693bd69caf7740e4261e2a199de3c9d60bd356d", func := "meniscus/meniscuslaw8.GaussBeams", spec := "gaussBeams", inPlace := ["math.archTrunc", "math.Float64bits", "math.Float64frombits"], apart := false }
def GaussBeamsSaid : Prop := gaussBeamsRow.holds Try.pinned (OpenSpec.ofChange gaussBeamsSpec)

/-- ITS FALSE NEIGHBOUR: 'it returns false'. Refute it at one input. -/
def gaussBeamsWrong : ChangeSpec := { name := "gaussBeams", fn := fun _ => fun
  | [d1, d2, d3, d4, d5, d6] => { results := [.lit (.bool false)], args := [d1, d2, d3, d4, d5, d6] }
  | _ => none }
def GaussBeamsWrongFalsely : Prop := gaussBeamsRow.holds Try.pinned (OpenSpec.ofChange gaussBeamsWrong)

/- THE SECOND FORM. 'bulk': how many values and letters a reading holds, each counted each time it is reached (what is shared counts as often as it is met; a slice's spare places count too). A statement '..UptoSaid' is the law's where the arguments, and the package variables that the reading takes, are together of bulk at most 1048576: NARROWER than '..Said'. Prove '..Said' where nothing that the law and all that it calls make is longer than what came in: it says more and counts as full. Else prove '..UptoSaid'. A law counts once. -/
mutual
def uptoBulk {H : Type} : DataW H → Nat
  | .lit (.string bytes) => bytes.length + 1
  | .lit _ => 1
  | .nil => 1
  | .ptr d => uptoBulk d + 1
  | .slice elems spare => uptoBulkAll elems + uptoBulkAll spare + 1
  | .agg parts => uptoBulkAll parts + 1
  | .iface _ d => uptoBulk d + 1
  | .map entries => uptoBulkEntries entries + 1
  | .held _ => 1
def uptoBulkAll {H : Type} : List (DataW H) → Nat
  | [] => 0
  | d :: r => uptoBulk d + uptoBulkAll r
def uptoBulkEntries {H : Type} : List (Lit × DataW H) → Nat
  | [] => 0
  | x :: r => uptoBulkEntry x + uptoBulkEntries r
def uptoBulkEntry {H : Type} : Lit × DataW H → Nat
  | (.string bytes, d) => bytes.length + uptoBulk d + 1
  | (_, d) => uptoBulk d + 1
 end
def uptoSmall : (H : Type) → List (DataW H) → Bool := fun _ ds => decide (uptoBulkAll ds ≤ 1048576)
def OpenSpec.upto (s : _root_.Go.ChangeSpec) : _root_.Go.OpenSpec := { _root_.Go.OpenSpec.ofChange s with cond := some uptoSmall }

/-- 'meniscuslaw8.GaussKnown', WHERE WHAT IT READS IS OF BULK AT MOST 1048576: true; the input reads as it did. -/
def gaussKnownUptoRow : OpenClaim := { program := "ytnkiikdlmlaklaa", sum := "ca37b431364a23ee37c47d9c6693bd69caf7740e4261e2a199de3c9d60bd356d", func := "meniscus/meniscuslaw8.GaussKnown", spec := "gaussKnown", inPlace := ["math.archTrunc", "math.Float64bits", "math.Float64frombits"], apart := false, narrowed := true }
def GaussKnownUptoSaid : Prop := gaussKnownUptoRow.holds Try.pinned (OpenSpec.upto gaussKnownSpec)

/-- 'meniscuslaw8.GaussTells', WHERE WHAT IT READS IS OF BULK AT MOST 1048576: true; the input reads as it did. -/
def gaussTellsUptoRow : OpenClaim := { program := "ytnkiikdlmlaklaa", sum := "ca37b431364a23ee37c47d9c6693bd69caf7740e4261e2a199de3c9d60bd356d", func := "meniscus/meniscuslaw8.GaussTells", spec := "gaussTells", inPlace := ["math.archTrunc", "math.Float64bits", "math.Float64frombits"], apart := false, narrowed := true }
def GaussTellsUptoSaid : Prop := gaussTellsUptoRow.holds Try.pinned (OpenSpec.upto gaussTellsSpec)

/-- 'meniscuslaw8.GaussTurns', WHERE WHAT IT READS IS OF BULK AT MOST 1048576: true; the input reads as it did. -/
def gaussTurnsUptoRow : OpenClaim := { program := "ytnkiikdlmlaklaa", sum := "ca37b431364a23ee37c47d9c6693bd69caf7740e4261e2a199de3c9d60bd356d", func := "meniscus/meniscuslaw8.GaussTurns", spec := "gaussTurns", inPlace := ["math.archTrunc", "math.Float64bits", "math.Float64frombits"], apart := false, narrowed := true }
def GaussTurnsUptoSaid : Prop := gaussTurnsUptoRow.holds Try.pinned (OpenSpec.upto gaussTurnsSpec)

/-- 'meniscuslaw8.GaussDiscs', WHERE WHAT IT READS IS OF BULK AT MOST 1048576: true; the input reads as it did. -/
def gaussDiscsUptoRow : OpenClaim := { program := "ytnkiikdlmlaklaa", sum := "ca37b431364a23ee37c47d9c6693bd69caf7740e4261e2a199de3c9d60bd356d", func := "meniscus/meniscuslaw8.GaussDiscs", spec := "gaussDiscs", inPlace := ["math.archTrunc", "math.Float64bits", "math.Float64frombits"], apart := false, narrowed := true }
def GaussDiscsUptoSaid : Prop := gaussDiscsUptoRow.holds Try.pinned (OpenSpec.upto gaussDiscsSpec)

/-- 'meniscuslaw8.GaussBeams', WHERE WHAT IT READS IS OF BULK AT MOST 1048576: true; the input reads as it did. -/
def gaussBeamsUptoRow : OpenClaim := { program := "ytnkiikdlmlaklaa", sum := "ca37b431364a23ee37c47d9c6693bd69caf7740e4261e2a199de3c9d60bd356d", func := "meniscus/meniscuslaw8.GaussBeams", spec := "gaussBeams", inPlace := ["math.archTrunc", "math.Float64bits", "math.Float64frombits"], apart := false, narrowed := true }
def GaussBeamsUptoSaid : Prop := gaussBeamsUptoRow.holds Try.pinned (OpenSpec.upto gaussBeamsSpec)

end Rows
end Go.Proofs.Ytnkiikdlmlaklaa
