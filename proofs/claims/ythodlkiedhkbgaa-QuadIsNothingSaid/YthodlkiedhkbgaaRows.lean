/-
  No cell of these rows narrows 'for every input' (looked for: loops, veiled, ifaces, maps, wideKeys, modest, calm, conditions, laid).
  DERIVED. THE GIVEN ROWS OF THIS SEAT. 5 by the template 'for every input the law returns true; each argument reads behind the call as it read before'; 0 by the template 'total and deterministic' (their statements: YthodlkiedhkbgaaTotals.lean).
  GIVEN WITH THE SEED: the statements are not yours to turn. If you find one false, say at which input.
  Laid BY PROGRAM, IN A SANDBOX (cutbox-rows.mjs): the forced cells as the released guide's own fill.sh prints them over the translation 91d2ff58dcdd85bc… (all of the seat's roots in one cut). By AI agents, Wed Nov 11 2026. No macro, syntax, notation, axiom, sorry.
-/
import Derived.Test.YthodlkiedhkbgaaChecked
import GoSem.Claim
import GoSem.ClaimJoined
import GoSem.ClaimMapViews
import Derived.JoinedTies
import Derived.KernelRfl
namespace Go.Proofs.Ythodlkiedhkbgaa
/- THE CELL 'sum', in the pinned program and in every row, IS THE sha256 OF THE DUMP (.gsa) THAT YthodlkiedhkbgaaProg.lean LOADS. Nothing in Lean hashes anything: it is a label: what it is worth is what the hold of that sum in a sandbox is worth. -/
noncomputable def Try.pinned : Pinned := { name := "ythodlkiedhkbgaa", sum := "91d2ff58dcdd85bcbcbd702ee9f0a435534f58b5aac0541a6456b71465e07d28", checked := Try.checked }
namespace Rows
def none {H : Type} : Left H := { results := [], args := [] }

/-- 'meniscuslaw6.QuadKnown': WHATEVER THE INPUT: true; the input reads as it did. -/
def quadKnownSpec : ChangeSpec := { name := "quadKnown", fn := fun _ => fun
  | [] => { results := [.lit (.bool true)], args := [] }
  | _ => none }
def quadKnownRow : OpenClaim := { program := "ythodlkiedhkbgaa", sum := "91d2ff58dcdd85bcbcbd702ee9f0a435534f58b5aac0541a6456b71465e07d28", func := "meniscus/meniscuslaw6.QuadKnown", spec := "quadKnown", apart := false }
def QuadKnownSaid : Prop := quadKnownRow.holds Try.pinned (OpenSpec.ofChange quadKnownSpec)

/-- ITS FALSE NEIGHBOUR: 'it returns false'. Refute it at one input. -/
def quadKnownWrong : ChangeSpec := { name := "quadKnown", fn := fun _ => fun
  | [] => { results := [.lit (.bool false)], args := [] }
  | _ => none }
def QuadKnownWrongFalsely : Prop := quadKnownRow.holds Try.pinned (OpenSpec.ofChange quadKnownWrong)

/-- 'meniscuslaw6.QuadTells': WHATEVER THE INPUT: true; the input reads as it did. -/
def quadTellsSpec : ChangeSpec := { name := "quadTells", fn := fun _ => fun
  | [d1, d2, d3, d4, d5, d6, d7] => { results := [.lit (.bool true)], args := [d1, d2, d3, d4, d5, d6, d7] }
  | _ => none }
def quadTellsRow : OpenClaim := { program := "ythodlkiedhkbgaa", sum := "91d2ff58dcdd85bcbcbd702ee9f0a435534f58b5aac0541a6456b71465e07d28", func := "meniscus/meniscuslaw6.QuadTells", spec := "quadTells", apart := false }
def QuadTellsSaid : Prop := quadTellsRow.holds Try.pinned (OpenSpec.ofChange quadTellsSpec)

/-- ITS FALSE NEIGHBOUR: 'it returns false'. Refute it at one input. -/
def quadTellsWrong : ChangeSpec := { name := "quadTells", fn := fun _ => fun
  | [d1, d2, d3, d4, d5, d6, d7] => { results := [.lit (.bool false)], args := [d1, d2, d3, d4, d5, d6, d7] }
  | _ => none }
def QuadTellsWrongFalsely : Prop := quadTellsRow.holds Try.pinned (OpenSpec.ofChange quadTellsWrong)

/-- 'meniscuslaw6.QuadRoots': WHATEVER THE INPUT: true; the input reads as it did. -/
def quadRootsSpec : ChangeSpec := { name := "quadRoots", fn := fun _ => fun
  | [d1, d2, d3, d4, d5] => { results := [.lit (.bool true)], args := [d1, d2, d3, d4, d5] }
  | _ => none }
def quadRootsRow : OpenClaim := { program := "ythodlkiedhkbgaa", sum := "91d2ff58dcdd85bcbcbd702ee9f0a435534f58b5aac0541a6456b71465e07d28", func := "meniscus/meniscuslaw6.QuadRoots", spec := "quadRoots", apart := false }
def QuadRootsSaid : Prop := quadRootsRow.holds Try.pinned (OpenSpec.ofChange quadRootsSpec)

/-- ITS FALSE NEIGHBOUR: 'it returns false'. Refute it at one input. -/
def quadRootsWrong : ChangeSpec := { name := "quadRoots", fn := fun _ => fun
  | [d1, d2, d3, d4, d5] => { results := [.lit (.bool false)], args := [d1, d2, d3, d4, d5] }
  | _ => none }
def QuadRootsWrongFalsely : Prop := quadRootsRow.holds Try.pinned (OpenSpec.ofChange quadRootsWrong)

/-- 'meniscuslaw6.QuadLess': WHATEVER THE INPUT: true; the input reads as it did. -/
def quadLessSpec : ChangeSpec := { name := "quadLess", fn := fun _ => fun
  | [d1, d2, d3, d4, d5, d6, d7, d8] => { results := [.lit (.bool true)], args := [d1, d2, d3, d4, d5, d6, d7, d8] }
  | _ => none }
def quadLessRow : OpenClaim := { program := "ythodlkiedhkbgaa", sum := "91d2ff58dcdd85bcbcbd702ee9f0a435534f58b5aac0541a6456b71465e07d28", func := "meniscus/meniscuslaw6.QuadLess", spec := "quadLess", apart := false }
def QuadLessSaid : Prop := quadLessRow.holds Try.pinned (OpenSpec.ofChange quadLessSpec)

/-- ITS FALSE NEIGHBOUR: 'it returns false'. Refute it at one input. -/
def quadLessWrong : ChangeSpec := { name := "quadLess", fn := fun _ => fun
  | [d1, d2, d3, d4, d5, d6, d7, d8] => { results := [.lit (.bool false)], args := [d1, d2, d3, d4, d5, d6, d7, d8] }
  | _ => none }
def QuadLessWrongFalsely : Prop := quadLessRow.holds Try.pinned (OpenSpec.ofChange quadLessWrong)

/-- 'meniscuslaw6.QuadIsNothing': WHATEVER THE INPUT: true; the input reads as it did. -/
def quadIsNothingSpec : ChangeSpec := { name := "quadIsNothing", fn := fun _ => fun
  | [d1, d2, d3, d4, d5, d6] => { results := [.lit (.bool true)], args := [d1, d2, d3, d4, d5, d6] }
  | _ => none }
def quadIsNothingRow : OpenClaim := { program := "ythodlkiedhkbgaa", sum := "91d2ff58dcdd85bcbcbd702ee9f0a435534f58b5aac0541a6456b71465e07d28", func := "meniscus/meniscuslaw6.QuadIsNothing", spec := "quadIsNothing", apart := false }
def QuadIsNothingSaid : Prop := quadIsNothingRow.holds Try.pinned (OpenSpec.ofChange quadIsNothingSpec)

/-- ITS FALSE NEIGHBOUR: 'it returns false'. Refute it at one input. -/
def quadIsNothingWrong : ChangeSpec := { name := "quadIsNothing", fn := fun _ => fun
  | [d1, d2, d3, d4, d5, d6] => { results := [.lit (.bool false)], args := [d1, d2, d3, d4, d5, d6] }
  | _ => none }
def QuadIsNothingWrongFalsely : Prop := quadIsNothingRow.holds Try.pinned (OpenSpec.ofChange quadIsNothingWrong)

/- THE SECOND FORM. 'bulk': how many values and letters a reading holds, each counted each time it is reached (what is shared counts as often as it is met; a slice's spare places count too). A statement '..UptoSaid' is the law's where the arguments, and the package variables that the reading takes, are together of bulk at most 1048576: NARROWER than '..Said'. Prove '..Said' where nothing that the law and all that it calls make is longer than what came in: it says more and counts as full. Else prove '..UptoSaid'. A law counts once. -/
mutual
def uptoBulk {H : Type} : DataW H → Nat
  | .lit (.string bytes) => bytes.length + 1
  | .lit _ => 1
  | .nil => 1
  | .ptr d => uptoBulk d + 1
  | .slice elems spare => uptoBulkAll elems + uptoBulkAll spare + 1
  | .agg parts => uptoBulkAll parts + 1
  | .iface _ d => uptoBulk d + 1
  | .map entries => uptoBulkEntries entries + 1
  | .held _ => 1
def uptoBulkAll {H : Type} : List (DataW H) → Nat
  | [] => 0
  | d :: r => uptoBulk d + uptoBulkAll r
def uptoBulkEntries {H : Type} : List (Lit × DataW H) → Nat
  | [] => 0
  | x :: r => uptoBulkEntry x + uptoBulkEntries r
def uptoBulkEntry {H : Type} : Lit × DataW H → Nat
  | (.string bytes, d) => bytes.length + uptoBulk d + 1
  | (_, d) => uptoBulk d + 1
 end
def uptoSmall : (H : Type) → List (DataW H) → Bool := fun _ ds => decide (uptoBulkAll ds ≤ 1048576)
def OpenSpec.upto (s : _root_.Go.ChangeSpec) : _root_.Go.OpenSpec := { _root_.Go.OpenSpec.ofChange s with cond := some uptoSmall }

/-- 'meniscuslaw6.QuadKnown', WHERE WHAT IT READS IS OF BULK AT MOST 1048576: true; the input reads as it did. -/
def quadKnownUptoRow : OpenClaim := { program := "ythodlkiedhkbgaa", sum := "91d2ff58dcdd85bcbcbd702ee9f0a435534f58b5aac0541a6456b71465e07d28", func := "meniscus/meniscuslaw6.QuadKnown", spec := "quadKnown", apart := false, narrowed := true }
def QuadKnownUptoSaid : Prop := quadKnownUptoRow.holds Try.pinned (OpenSpec.upto quadKnownSpec)

/-- 'meniscuslaw6.QuadTells', WHERE WHAT IT READS IS OF BULK AT MOST 1048576: true; the input reads as it did. -/
def quadTellsUptoRow : OpenClaim := { program := "ythodlkiedhkbgaa", sum := "91d2ff58dcdd85bcbcbd702ee9f0a435534f58b5aac0541a6456b71465e07d28", func := "meniscus/meniscuslaw6.QuadTells", spec := "quadTells", apart := false, narrowed := true }
def QuadTellsUptoSaid : Prop := quadTellsUptoRow.holds Try.pinned (OpenSpec.upto quadTellsSpec)

/-- 'meniscuslaw6.QuadRoots', WHERE WHAT IT READS IS OF BULK AT MOST 1048576: true; the input reads as it did. -/
def quadRootsUptoRow : OpenClaim := { program := "ythodlkiedhkbgaa", sum := "91d2ff58dcdd85bcbcbd702ee9f0a435534f58b5aac0541a6456b71465e07d28", func := "meniscus/meniscuslaw6.QuadRoots", spec := "quadRoots", apart := false, narrowed := true }
def QuadRootsUptoSaid : Prop := quadRootsUptoRow.holds Try.pinned (OpenSpec.upto quadRootsSpec)

/-- 'meniscuslaw6.QuadLess', WHERE WHAT IT READS IS OF BULK AT MOST 1048576: true; the input reads as it did. -/
def quadLessUptoRow : OpenClaim := { program := "ythodlkiedhkbgaa", sum := "91d2ff58dcdd85bcbcbd702ee9f0a435534f58b5aac0541a6456b71465e07d28", func := "meniscus/meniscuslaw6.QuadLess", spec := "quadLess", apart := false, narrowed := true }
def QuadLessUptoSaid : Prop := quadLessUptoRow.holds Try.pinned (OpenSpec.upto quadLessSpec)

/-- 'meniscuslaw6.QuadIsNothing', WHERE WHAT IT READS IS OF BULK AT MOST 1048576: true; the input reads as it did. -/
def quadIsNothingUptoRow : OpenClaim := { program := "ythodlkiedhkbgaa", sum := "91d2ff58dcdd85bcbcbd702ee9f0a435534f58b5aac0541a6456b71465e07d28", func := "meniscus/meniscuslaw6.QuadIsNothing", spec := "quadIsNothing", apart := false, narrowed := true }
def QuadIsNothingUptoSaid : Prop := quadIsNothingUptoRow.holds Try.pinned (OpenSpec.upto quadIsNothingSpec)

end Rows
end Go.Proofs.Ythodlkiedhkbgaa
