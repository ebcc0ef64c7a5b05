/-
  No cell of these rows narrows 'for every input' (looked for: loops, veiled, ifaces, maps, wideKeys, modest, calm, conditions, laid).
  DERIVED. THE GIVEN ROWS OF THIS SEAT. 5 by the template 'for every input the law returns true; each argument reads behind the call as it read before'; 0 by the template 'total and deterministic' (their statements: YtgpmalenidonfaaTotals.lean).
  GIVEN WITH THE SEED: the statements are not yours to turn. If you find one false, say at which input.
  Laid BY PROGRAM, IN A SANDBOX (cutbox-rows.mjs): the forced cells as the released guide's own fill.sh prints them over the translation 57500cc8bb2cd5f0… (all of the seat's roots in one cut). By AI agents, Wed Nov 11 2026. No macro, syntax, notation, axiom, sorry.
-/
import Derived.Test.YtgpmalenidonfaaChecked
import GoSem.Claim
import GoSem.ClaimJoined
import GoSem.ClaimMapViews
import Derived.JoinedTies
import Derived.KernelRfl
namespace Go.Proofs.Ytgpmalenidonfaa
/- THE CELL 'sum', in the pinned program and in every row, IS THE sha256 OF THE DUMP (.gsa) THAT YtgpmalenidonfaaProg.lean LOADS. Nothing in Lean hashes anything: it is a label: what it is worth is what the hold of that sum in a sandbox is worth. -/
noncomputable def Try.pinned : Pinned := { name := "ytgpmalenidonfaa", sum := "57500cc8bb2cd5f0c879a69fd0b2ceebe52fbe9bfef990e1d5e14836958c45a8", checked := Try.checked }
namespace Rows
def none {H : Type} : Left H := { results := [], args := [] }

/-- 'meniscuslaw5.VecKnown': WHATEVER THE INPUT: true; the input reads as it did. -/
def vecKnownSpec : ChangeSpec := { name := "vecKnown", fn := fun _ => fun
  | [] => { results := [.lit (.bool true)], args := [] }
  | _ => none }
def vecKnownRow : OpenClaim := { program := "ytgpmalenidonfaa", sum := "57500cc8bb2cd5f0c879a69fd0b2ceebe52fbe9bfef990e1d5e14836958c45a8", func := "meniscus/meniscuslaw5.VecKnown", spec := "vecKnown", apart := false }
def VecKnownSaid : Prop := vecKnownRow.holds Try.pinned (OpenSpec.ofChange vecKnownSpec)

/-- ITS FALSE NEIGHBOUR: 'it returns false'. Refute it at one input. -/
def vecKnownWrong : ChangeSpec := { name := "vecKnown", fn := fun _ => fun
  | [] => { results := [.lit (.bool false)], args := [] }
  | _ => none }
def VecKnownWrongFalsely : Prop := vecKnownRow.holds Try.pinned (OpenSpec.ofChange vecKnownWrong)

/-- 'meniscuslaw5.VecTells': WHATEVER THE INPUT: true; the input reads as it did. -/
def vecTellsSpec : ChangeSpec := { name := "vecTells", fn := fun _ => fun
  | [d1, d2, d3, d4, d5] => { results := [.lit (.bool true)], args := [d1, d2, d3, d4, d5] }
  | _ => none }
def vecTellsRow : OpenClaim := { program := "ytgpmalenidonfaa", sum := "57500cc8bb2cd5f0c879a69fd0b2ceebe52fbe9bfef990e1d5e14836958c45a8", func := "meniscus/meniscuslaw5.VecTells", spec := "vecTells", apart := false }
def VecTellsSaid : Prop := vecTellsRow.holds Try.pinned (OpenSpec.ofChange vecTellsSpec)

/-- ITS FALSE NEIGHBOUR: 'it returns false'. Refute it at one input. -/
def vecTellsWrong : ChangeSpec := { name := "vecTells", fn := fun _ => fun
  | [d1, d2, d3, d4, d5] => { results := [.lit (.bool false)], args := [d1, d2, d3, d4, d5] }
  | _ => none }
def VecTellsWrongFalsely : Prop := vecTellsRow.holds Try.pinned (OpenSpec.ofChange vecTellsWrong)

/-- 'meniscuslaw5.VecLess': WHATEVER THE INPUT: true; the input reads as it did. -/
def vecLessSpec : ChangeSpec := { name := "vecLess", fn := fun _ => fun
  | [d1, d2, d3, d4, d5] => { results := [.lit (.bool true)], args := [d1, d2, d3, d4, d5] }
  | _ => none }
def vecLessRow : OpenClaim := { program := "ytgpmalenidonfaa", sum := "57500cc8bb2cd5f0c879a69fd0b2ceebe52fbe9bfef990e1d5e14836958c45a8", func := "meniscus/meniscuslaw5.VecLess", spec := "vecLess", apart := false }
def VecLessSaid : Prop := vecLessRow.holds Try.pinned (OpenSpec.ofChange vecLessSpec)

/-- ITS FALSE NEIGHBOUR: 'it returns false'. Refute it at one input. -/
def vecLessWrong : ChangeSpec := { name := "vecLess", fn := fun _ => fun
  | [d1, d2, d3, d4, d5] => { results := [.lit (.bool false)], args := [d1, d2, d3, d4, d5] }
  | _ => none }
def VecLessWrongFalsely : Prop := vecLessRow.holds Try.pinned (OpenSpec.ofChange vecLessWrong)

/-- 'meniscuslaw5.VecUnits': WHATEVER THE INPUT: true; the input reads as it did. -/
def vecUnitsSpec : ChangeSpec := { name := "vecUnits", fn := fun _ => fun
  | [d1, d2, d3, d4] => { results := [.lit (.bool true)], args := [d1, d2, d3, d4] }
  | _ => none }
def vecUnitsRow : OpenClaim := { program := "ytgpmalenidonfaa", sum := "57500cc8bb2cd5f0c879a69fd0b2ceebe52fbe9bfef990e1d5e14836958c45a8", func := "meniscus/meniscuslaw5.VecUnits", spec := "vecUnits", apart := false }
def VecUnitsSaid : Prop := vecUnitsRow.holds Try.pinned (OpenSpec.ofChange vecUnitsSpec)

/-- ITS FALSE NEIGHBOUR: 'it returns false'. Refute it at one input. -/
def vecUnitsWrong : ChangeSpec := { name := "vecUnits", fn := fun _ => fun
  | [d1, d2, d3, d4] => { results := [.lit (.bool false)], args := [d1, d2, d3, d4] }
  | _ => none }
def VecUnitsWrongFalsely : Prop := vecUnitsRow.holds Try.pinned (OpenSpec.ofChange vecUnitsWrong)

/-- 'meniscuslaw5.VecAlong': WHATEVER THE INPUT: true; the input reads as it did. -/
def vecAlongSpec : ChangeSpec := { name := "vecAlong", fn := fun _ => fun
  | [d1, d2, d3, d4, d5, d6] => { results := [.lit (.bool true)], args := [d1, d2, d3, d4, d5, d6] }
  | _ => none }
def vecAlongRow : OpenClaim := { program := "ytgpmalenidonfaa", sum := "57500cc8bb2cd5f0c879a69fd0b2ceebe52fbe9bfef990e1d5e14836958c45a8", func := "meniscus/meniscuslaw5.VecAlong", spec := "vecAlong", apart := false }
def VecAlongSaid : Prop := vecAlongRow.holds Try.pinned (OpenSpec.ofChange vecAlongSpec)

/-- ITS FALSE NEIGHBOUR: 'it returns false'. Refute it at one input. -/
def vecAlongWrong : ChangeSpec := { name := "vecAlong", fn := fun _ => fun
  | [d1, d2, d3, d4, d5, d6] => { results := [.lit (.bool false)], args := [d1, d2, d3, d4, d5, d6] }
  | _ => none }
def VecAlongWrongFalsely : Prop := vecAlongRow.holds Try.pinned (OpenSpec.ofChange vecAlongWrong)

/- THE SECOND FORM. 'bulk': how many values and letters a reading holds, each counted each time it is reached (what is shared counts as often as it is met; a slice's spare places count too). A statement '..UptoSaid' is the law's where the arguments, and the package variables that the reading takes, are together of bulk at most 1048576: NARROWER than '..Said'. Prove '..Said' where nothing that the law and all that it calls make is longer than what came in: it says more and counts as full. Else prove '..UptoSaid'. A law counts once. -/
mutual
def uptoBulk {H : Type} : DataW H → Nat
  | .lit (.string bytes) => bytes.length + 1
  | .lit _ => 1
  | .nil => 1
  | .ptr d => uptoBulk d + 1
  | .slice elems spare => uptoBulkAll elems + uptoBulkAll spare + 1
  | .agg parts => uptoBulkAll parts + 1
  | .iface _ d => uptoBulk d + 1
  | .map entries => uptoBulkEntries entries + 1
  | .held _ => 1
def uptoBulkAll {H : Type} : List (DataW H) → Nat
  | [] => 0
  | d :: r => uptoBulk d + uptoBulkAll r
def uptoBulkEntries {H : Type} : List (Lit × DataW H) → Nat
  | [] => 0
  | x :: r => uptoBulkEntry x + uptoBulkEntries r
def uptoBulkEntry {H : Type} : Lit × DataW H → Nat
  | (.string bytes, d) => bytes.length + uptoBulk d + 1
  | (_, d) => uptoBulk d + 1
 end
def uptoSmall : (H : Type) → List (DataW H) → Bool := fun _ ds => decide (uptoBulkAll ds ≤ 1048576)
def OpenSpec.upto (s : _root_.Go.ChangeSpec) : _root_.Go.OpenSpec := { _root_.Go.OpenSpec.ofChange s with cond := some uptoSmall }

/-- 'meniscuslaw5.VecKnown', WHERE WHAT IT READS IS OF BULK AT MOST 1048576: true; the input reads as it did. -/
def vecKnownUptoRow : OpenClaim := { program := "ytgpmalenidonfaa", sum := "57500cc8bb2cd5f0c879a69fd0b2ceebe52fbe9bfef990e1d5e14836958c45a8", func := "meniscus/meniscuslaw5.VecKnown", spec := "vecKnown", apart := false, narrowed := true }
def VecKnownUptoSaid : Prop := vecKnownUptoRow.holds Try.pinned (OpenSpec.upto vecKnownSpec)

/-- 'meniscuslaw5.VecTells', WHERE WHAT IT READS IS OF BULK AT MOST 1048576: true; the input reads as it did. -/
def vecTellsUptoRow : OpenClaim := { program := "ytgpmalenidonfaa", sum := "57500cc8bb2cd5f0c879a69fd0b2ceebe52fbe9bfef990e1d5e14836958c45a8", func := "meniscus/meniscuslaw5.VecTells", spec := "vecTells", apart := false, narrowed := true }
def VecTellsUptoSaid : Prop := vecTellsUptoRow.holds Try.pinned (OpenSpec.upto vecTellsSpec)

/-- 'meniscuslaw5.VecLess', WHERE WHAT IT READS IS OF BULK AT MOST 1048576: true; the input reads as it did. -/
def vecLessUptoRow : OpenClaim := { program := "ytgpmalenidonfaa", sum := "57500cc8bb2cd5f0c879a69fd0b2ceebe52fbe9bfef990e1d5e14836958c45a8", func := "meniscus/meniscuslaw5.VecLess", spec := "vecLess", apart := false, narrowed := true }
def VecLessUptoSaid : Prop := vecLessUptoRow.holds Try.pinned (OpenSpec.upto vecLessSpec)

/-- 'meniscuslaw5.VecUnits', WHERE WHAT IT READS IS OF BULK AT MOST 1048576: true; the input reads as it did. -/
def vecUnitsUptoRow : OpenClaim := { program := "ytgpmalenidonfaa", sum := "57500cc8bb2cd5f0c879a69fd0b2ceebe52fbe9bfef990e1d5e14836958c45a8", func := "meniscus/meniscuslaw5.VecUnits", spec := "vecUnits", apart := false, narrowed := true }
def VecUnitsUptoSaid : Prop := vecUnitsUptoRow.holds Try.pinned (OpenSpec.upto vecUnitsSpec)

/-- 'meniscuslaw5.VecAlong', WHERE WHAT IT READS IS OF BULK AT MOST 1048576: true; the input reads as it did. -/
def vecAlongUptoRow : OpenClaim := { program := "ytgpmalenidonfaa", sum := "57500cc8bb2cd5f0c879a69fd0b2ceebe52fbe9bfef990e1d5e14836958c45a8", func := "meniscus/meniscuslaw5.VecAlong", spec := "vecAlong", apart := false, narrowed := true }
def VecAlongUptoSaid : Prop := vecAlongUptoRow.holds Try.pinned (OpenSpec.upto vecAlongSpec)

end Rows
end Go.Proofs.Ytgpmalenidonfaa
