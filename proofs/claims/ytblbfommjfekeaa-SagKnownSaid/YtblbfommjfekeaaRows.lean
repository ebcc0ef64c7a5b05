/-
  No cell of these rows narrows 'for every input' (looked for: loops, veiled, ifaces, maps, wideKeys, modest, calm, conditions, laid).
  DERIVED. THE GIVEN ROWS OF THIS SEAT. 5 by the template 'for every input the law returns true; each argument reads behind the call as it read before'; 0 by the template 'total and deterministic' (their statements: YtblbfommjfekeaaTotals.lean).
  GIVEN WITH THE SEED: the statements are not yours to turn. If you find one false, say at which input.
  Laid BY PROGRAM, IN A SANDBOX (cutbox-rows.mjs): the forced cells as the released guide's own fill.sh prints them over the translation c65f33e1edc84d1c… (all of the seat's roots in one cut). By AI agents, Wed Nov 11 2026. No macro, syntax, notation, axiom, sorry.
-/
import Derived.Test.YtblbfommjfekeaaChecked
import GoSem.Claim
import GoSem.ClaimJoined
import GoSem.ClaimMapViews
import Derived.JoinedTies
import Derived.KernelRfl
namespace Go.Proofs.Ytblbfommjfekeaa
/- THE CELL 'sum', in the pinned program and in every row, IS THE sha256 OF THE DUMP (.gsa) THAT YtblbfommjfekeaaProg.lean LOADS. Nothing in Lean hashes anything: it is a label: what it is worth is what the hold of that sum in a sandbox is worth. -/
noncomputable def Try.pinned : Pinned := { name := "ytblbfommjfekeaa", sum := "c65f33e1edc84d1cc6bf3aa340e49544cdc373d5d0e88f0af6ec2a6a11045227", checked := Try.checked }
namespace Rows
def none {H : Type} : Left H := { results := [], args := [] }

/-- 'meniscuslaw14.SagKnown': WHATEVER THE INPUT: true; the input reads as it did. -/
def sagKnownSpec : ChangeSpec := { name := "sagKnown", fn := fun _ => fun
  | [] => { results := [.lit (.bool true)], args := [] }
  | _ => none }
def sagKnownRow : OpenClaim := { program := "ytblbfommjfekeaa", sum := "c65f33e1edc84d1cc6bf3aa340e49544cdc373d5d0e88f0af6ec2a6a11045227", func := "meniscus/meniscuslaw14.SagKnown", spec := "sagKnown", apart := false }
def SagKnownSaid : Prop := sagKnownRow.holds Try.pinned (OpenSpec.ofChange sagKnownSpec)

/-- ITS FALSE NEIGHBOUR: 'it returns false'. Refute it at one input. -/
def sagKnownWrong : ChangeSpec := { name := "sagKnown", fn := fun _ => fun
  | [] => { results := [.lit (.bool false)], args := [] }
  | _ => none }
def SagKnownWrongFalsely : Prop := sagKnownRow.holds Try.pinned (OpenSpec.ofChange sagKnownWrong)

/-- 'meniscuslaw14.SagTells': WHATEVER THE INPUT: true; the input reads as it did. -/
def sagTellsSpec : ChangeSpec := { name := "sagTells", fn := fun _ => fun
  | [d1, d2, d3, d4, d5, d6, d7] => { results := [.lit (.bool true)], args := [d1, d2, d3, d4, d5, d6, d7] }
  | _ => none }
def sagTellsRow : OpenClaim := { program := "ytblbfommjfekeaa", sum := "c65f33e1edc84d1cc6bf3aa340e49544cdc373d5d0e88f0af6ec2a6a11045227", func := "meniscus/meniscuslaw14.SagTells", spec := "sagTells", recurses := true, apart := false }
def SagTellsSaid : Prop := sagTellsRow.holds Try.pinned (OpenSpec.ofChange sagTellsSpec)

/-- ITS FALSE NEIGHBOUR: 'it returns false'. Refute it at one input. -/
def sagTellsWrong : ChangeSpec := { name := "sagTells", fn := fun _ => fun
  | [d1, d2, d3, d4, d5, d6, d7] => { results := [.lit (.bool false)], args := [d1, d2, d3, d4, d5, d6, d7] }
  | _ => none }
def SagTellsWrongFalsely : Prop := sagTellsRow.holds Try.pinned (OpenSpec.ofChange sagTellsWrong)

/-- 'meniscuslaw14.SagLess': WHATEVER THE INPUT: true; the input reads as it did. -/
def sagLessSpec : ChangeSpec := { name := "sagLess", fn := fun _ => fun
  | [d1, d2, d3, d4, d5, d6] => { results := [.lit (.bool true)], args := [d1, d2, d3, d4, d5, d6] }
  | _ => none }
def sagLessRow : OpenClaim := { program := "ytblbfommjfekeaa", sum := "c65f33e1edc84d1cc6bf3aa340e49544cdc373d5d0e88f0af6ec2a6a11045227", func := "meniscus/meniscuslaw14.SagLess", spec := "sagLess", recurses := true, apart := false }
def SagLessSaid : Prop := sagLessRow.holds Try.pinned (OpenSpec.ofChange sagLessSpec)

/-- ITS FALSE NEIGHBOUR: 'it returns false'. Refute it at one input. -/
def sagLessWrong : ChangeSpec := { name := "sagLess", fn := fun _ => fun
  | [d1, d2, d3, d4, d5, d6] => { results := [.lit (.bool false)], args := [d1, d2, d3, d4, d5, d6] }
  | _ => none }
def SagLessWrongFalsely : Prop := sagLessRow.holds Try.pinned (OpenSpec.ofChange sagLessWrong)

/-- 'meniscuslaw14.SagBalls': WHATEVER THE INPUT: true; the input reads as it did. -/
def sagBallsSpec : ChangeSpec := { name := "sagBalls", fn := fun _ => fun
  | [d1, d2, d3, d4] => { results := [.lit (.bool true)], args := [d1, d2, d3, d4] }
  | _ => none }
def sagBallsRow : OpenClaim := { program := "ytblbfommjfekeaa", sum := "c65f33e1edc84d1cc6bf3aa340e49544cdc373d5d0e88f0af6ec2a6a11045227", func := "meniscus/meniscuslaw14.SagBalls", spec := "sagBalls", apart := false }
def SagBallsSaid : Prop := sagBallsRow.holds Try.pinned (OpenSpec.ofChange sagBallsSpec)

/-- ITS FALSE NEIGHBOUR: 'it returns false'. Refute it at one input. -/
def sagBallsWrong : ChangeSpec := { name := "sagBalls", fn := fun _ => fun
  | [d1, d2, d3, d4] => { results := [.lit (.bool false)], args := [d1, d2, d3, d4] }
  | _ => none }
def SagBallsWrongFalsely : Prop := sagBallsRow.holds Try.pinned (OpenSpec.ofChange sagBallsWrong)

/-- 'meniscuslaw14.SagMirrors': WHATEVER THE INPUT: true; the input reads as it did. -/
def sagMirrorsSpec : ChangeSpec := { name := "sagMirrors", fn := fun _ => fun
  | [d1, d2, d3, d4] => { results := [.lit (.bool true)], args := [d1, d2, d3, d4] }
  | _ => none }
def sagMirrorsRow : OpenClaim := { program := "ytblbfommjfekeaa", sum := "c65f33e1edc84d1cc6bf3aa340e49544cdc373d5d0e88f0af6ec2a6a11045227", func := "meniscus/meniscuslaw14.SagMirrors", spec := "sagMirrors", recurses := true, apart := false }
def SagMirrorsSaid : Prop := sagMirrorsRow.holds Try.pinned (OpenSpec.ofChange sagMirrorsSpec)

/-- ITS FALSE NEIGHBOUR: 'it returns false'. Refute it at one input. -/
def sagMirrorsWrong : ChangeSpec := { name := "sagMirrors", fn := fun _ => fun
  | [d1, d2, d3, d4] => { results := [.lit (.bool false)], args := [d1, d2, d3, d4] }
  | _ => none }
def SagMirrorsWrongFalsely : Prop := sagMirrorsRow.holds Try.pinned (OpenSpec.ofChange sagMirrorsWrong)

/- THE SECOND FORM. 'bulk': how many values and letters a reading holds, each counted each time it is reached (what is shared counts as often as it is met; a slice's spare places count too). A statement '..UptoSaid' is the law's where the arguments, and the package variables that the reading takes, are together of bulk at most 1048576: NARROWER than '..Said'. Prove '..Said' where nothing that the law and all that it calls make is longer than what came in: it says more and counts as full. Else prove '..UptoSaid'. A law counts once. -/
mutual
def uptoBulk {H : Type} : DataW H → Nat
  | .lit (.string bytes) => bytes.length + 1
  | .lit _ => 1
  | .nil => 1
  | .ptr d => uptoBulk d + 1
  | .slice elems spare => uptoBulkAll elems + uptoBulkAll spare + 1
  | .agg parts => uptoBulkAll parts + 1
  | .iface _ d => uptoBulk d + 1
  | .map entries => uptoBulkEntries entries + 1
  | .held _ => 1
def uptoBulkAll {H : Type} : List (DataW H) → Nat
  | [] => 0
  | d :: r => uptoBulk d + uptoBulkAll r
def uptoBulkEntries {H : Type} : List (Lit × DataW H) → Nat
  | [] => 0
  | x :: r => uptoBulkEntry x + uptoBulkEntries r
def uptoBulkEntry {H : Type} : Lit × DataW H → Nat
  | (.string bytes, d) => bytes.length + uptoBulk d + 1
  | (_, d) => uptoBulk d + 1
 end
def uptoSmall : (H : Type) → List (DataW H) → Bool := fun _ ds => decide (uptoBulkAll ds ≤ 1048576)
def OpenSpec.upto (s : _root_.Go.ChangeSpec) : _root_.Go.OpenSpec := { _root_.Go.OpenSpec.ofChange s with cond := some uptoSmall }

/-- 'meniscuslaw14.SagKnown', WHERE WHAT IT READS IS OF BULK AT MOST 1048576: true; the input reads as it did. -/
def sagKnownUptoRow : OpenClaim := { program := "ytblbfommjfekeaa", sum := "c65f33e1edc84d1cc6bf3aa340e49544cdc373d5d0e88f0af6ec2a6a11045227", func := "meniscus/meniscuslaw14.SagKnown", spec := "sagKnown", apart := false, narrowed := true }
def SagKnownUptoSaid : Prop := sagKnownUptoRow.holds Try.pinned (OpenSpec.upto sagKnownSpec)

/-- 'meniscuslaw14.SagTells', WHERE WHAT IT READS IS OF BULK AT MOST 1048576: true; the input reads as it did. -/
def sagTellsUptoRow : OpenClaim := { program := "ytblbfommjfekeaa", sum := "c65f33e1edc84d1cc6bf3aa340e49544cdc373d5d0e88f0af6ec2a6a11045227", func := "meniscus/meniscuslaw14.SagTells", spec := "sagTells", recurses := true, apart := false, narrowed := true }
def SagTellsUptoSaid : Prop := sagTellsUptoRow.holds Try.pinned (OpenSpec.upto sagTellsSpec)

/-- 'meniscuslaw14.SagLess', WHERE WHAT IT READS IS OF BULK AT MOST 1048576: true; the input reads as it did. -/
def sagLessUptoRow : OpenClaim := { program := "ytblbfommjfekeaa", sum := "c65f33e1edc84d1cc6bf3aa340e49544cdc373d5d0e88f0af6ec2a6a11045227", func := "meniscus/meniscuslaw14.SagLess", spec := "sagLess", recurses := true, apart := false, narrowed := true }
def SagLessUptoSaid : Prop := sagLessUptoRow.holds Try.pinned (OpenSpec.upto sagLessSpec)

/-- 'meniscuslaw14.SagBalls', WHERE WHAT IT READS IS OF BULK AT MOST 1048576: true; the input reads as it did. -/
def sagBallsUptoRow : OpenClaim := { program := "ytblbfommjfekeaa", sum := "c65f33e1edc84d1cc6bf3aa340e49544cdc373d5d0e88f0af6ec2a6a11045227", func := "meniscus/meniscuslaw14.SagBalls", spec := "sagBalls", apart := false, narrowed := true }
def SagBallsUptoSaid : Prop := sagBallsUptoRow.holds Try.pinned (OpenSpec.upto sagBallsSpec)

/-- 'meniscuslaw14.SagMirrors', WHERE WHAT IT READS IS OF BULK AT MOST 1048576: true; the input reads as it did. -/
def sagMirrorsUptoRow : OpenClaim := { program := "ytblbfommjfekeaa", sum := "c65f33e1edc84d1cc6bf3aa340e49544cdc373d5d0e88f0af6ec2a6a11045227", func := "meniscus/meniscuslaw14.SagMirrors", spec := "sagMirrors", recurses := true, apart := false, narrowed := true }
def SagMirrorsUptoSaid : Prop := sagMirrorsUptoRow.holds Try.pinned (OpenSpec.upto sagMirrorsSpec)

end Rows
end Go.Proofs.Ytblbfommjfekeaa
