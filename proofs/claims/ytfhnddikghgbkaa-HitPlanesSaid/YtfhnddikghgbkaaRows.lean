/-
  No cell of these rows narrows 'for every input' (looked for: loops, veiled, ifaces, maps, wideKeys, modest, calm, conditions, laid).
  DERIVED. THE GIVEN ROWS OF THIS SEAT. 4 by the template 'for every input the law returns true; each argument reads behind the call as it read before'; 0 by the template 'total and deterministic' (their statements: YtfhnddikghgbkaaTotals.lean).
  GIVEN WITH THE SEED: the statements are not yours to turn. If you find one false, say at which input.
  Laid BY PROGRAM, IN A SANDBOX (cutbox-rows.mjs): the forced cells as the released guide's own fill.sh prints them over the translation 31936c157620eb2e… (all of the seat's roots in one cut). By AI agents, Wed Nov 11 2026. No macro, syntax, notation, axiom, sorry.
-/
import Derived.Test.YtfhnddikghgbkaaChecked
import GoSem.Claim
import GoSem.ClaimJoined
import GoSem.ClaimMapViews
import Derived.JoinedTies
import Derived.KernelRfl
namespace Go.Proofs.Ytfhnddikghgbkaa
/- THE CELL 'sum', in the pinned program and in every row, IS THE sha256 OF THE DUMP (.gsa) THAT YtfhnddikghgbkaaProg.lean LOADS. Nothing in Lean hashes anything: it is a label: what it is worth is what the hold of that sum in a sandbox is worth. -/
noncomputable def Try.pinned : Pinned := { name := "ytfhnddikghgbkaa", sum := "31936c157620eb2e859e874ad14cf2a268844a465832915154b04441f42100a1", checked := Try.checked }
namespace Rows
def none {H : Type} : Left H := { results := [], args := [] }

/-- 'meniscuslaw14.SagLess': WHATEVER THE INPUT: true; the input reads as it did. -/
def sagLessSpec : ChangeSpec := { name := "sagLess", fn := fun _ => fun
  | [d1, d2, d3, d4, d5, d6] => { results := [.lit (.bool true)], args := [d1, d2, d3, d4, d5, d6] }
  | _ => none }
def sagLessRow : OpenClaim := { program := "ytfhnddikghgbkaa", sum := "31936c157620eb2e859e874ad14cf2a268844a465832915154b04441f42100a1", func := "meniscus/meniscuslaw14.SagLess", spec := "sagLess", recurses := true, apart := false }
def SagLessSaid : Prop := sagLessRow.holds Try.pinned (OpenSpec.ofChange sagLessSpec)

/-- ITS FALSE NEIGHBOUR: 'it returns false'. Refute it at one input. -/
def sagLessWrong : ChangeSpec := { name := "sagLess", fn := fun _ => fun
  | [d1, d2, d3, d4, d5, d6] => { results := [.lit (.bool false)], args := [d1, d2, d3, d4, d5, d6] }
  | _ => none }
def SagLessWrongFalsely : Prop := sagLessRow.holds Try.pinned (OpenSpec.ofChange sagLessWrong)

/-- 'meniscuslaw14.SagBalls': WHATEVER THE INPUT: true; the input reads as it did. -/
def sagBallsSpec : ChangeSpec := { name := "sagBalls", fn := fun _ => fun
  | [d1, d2, d3, d4] => { results := [.lit (.bool true)], args := [d1, d2, d3, d4] }
  | _ => none }
def sagBallsRow : OpenClaim := { program := "ytfhnddikghgbkaa", sum := "31936c157620eb2e859e874ad14cf2a268844a465832915154b04441f42100a1", func := "meniscus/meniscuslaw14.SagBalls", spec := "sagBalls", apart := false }
def SagBallsSaid : Prop := sagBallsRow.holds Try.pinned (OpenSpec.ofChange sagBallsSpec)

/-- ITS FALSE NEIGHBOUR: 'it returns false'. Refute it at one input. -/
def sagBallsWrong : ChangeSpec := { name := "sagBalls", fn := fun _ => fun
  | [d1, d2, d3, d4] => { results := [.lit (.bool false)], args := [d1, d2, d3, d4] }
  | _ => none }
def SagBallsWrongFalsely : Prop := sagBallsRow.holds Try.pinned (OpenSpec.ofChange sagBallsWrong)

/-- 'meniscuslaw15.HitKnown': WHATEVER THE INPUT: true; the input reads as it did. -/
def hitKnownSpec : ChangeSpec := { name := "hitKnown", fn := fun _ => fun
  | [] => { results := [.lit (.bool true)], args := [] }
  | _ => none }
def hitKnownRow : OpenClaim := { program := "ytfhnddikghgbkaa", sum := "31936c157620eb2e859e874ad14cf2a268844a465832915154b04441f42100a1", func := "meniscus/meniscuslaw15.HitKnown", spec := "hitKnown", unfollowed := true, recurses := true, apart := false }
def HitKnownSaid : Prop := hitKnownRow.holds Try.pinned (OpenSpec.ofChange hitKnownSpec)

/-- ITS FALSE NEIGHBOUR: 'it returns false'. Refute it at one input. -/
def hitKnownWrong : ChangeSpec := { name := "hitKnown", fn := fun _ => fun
  | [] => { results := [.lit (.bool false)], args := [] }
  | _ => none }
def HitKnownWrongFalsely : Prop := hitKnownRow.holds Try.pinned (OpenSpec.ofChange hitKnownWrong)

/-- 'meniscuslaw15.HitPlanes': WHATEVER THE INPUT: true; the input reads as it did. -/
def hitPlanesSpec : ChangeSpec := { name := "hitPlanes", fn := fun _ => fun
  | [d1, d2, d3, d4, d5, d6] => { results := [.lit (.bool true)], args := [d1, d2, d3, d4, d5, d6] }
  | _ => none }
def hitPlanesRow : OpenClaim := { program := "ytfhnddikghgbkaa", sum := "31936c157620eb2e859e874ad14cf2a268844a465832915154b04441f42100a1", func := "meniscus/meniscuslaw15.HitPlanes", spec := "hitPlanes", unfollowed := true, recurses := true, apart := false }
def HitPlanesSaid : Prop := hitPlanesRow.holds Try.pinned (OpenSpec.ofChange hitPlanesSpec)

/-- ITS FALSE NEIGHBOUR: 'it returns false'. Refute it at one input. -/
def hitPlanesWrong : ChangeSpec := { name := "hitPlanes", fn := fun _ => fun
  | [d1, d2, d3, d4, d5, d6] => { results := [.lit (.bool false)], args := [d1, d2, d3, d4, d5, d6] }
  | _ => none }
def HitPlanesWrongFalsely : Prop := hitPlanesRow.holds Try.pinned (OpenSpec.ofChange hitPlanesWrong)

/- THE SECOND FORM. 'bulk': how many values and letters a reading holds, each counted each time it is reached (what is shared counts as often as it is met; a slice's spare places count too). A statement '..UptoSaid' is the law's where the arguments, and the package variables that the reading takes, are together of bulk at most 1048576: NARROWER than '..Said'. Prove '..Said' where nothing that the law and all that it calls make is longer than what came in: it says more and counts as full. Else prove '..UptoSaid'. A law counts once. -/
mutual
def uptoBulk {H : Type} : DataW H → Nat
  | .lit (.string bytes) => bytes.length + 1
  | .lit _ => 1
  | .nil => 1
  | .ptr d => uptoBulk d + 1
  | .slice elems spare => uptoBulkAll elems + uptoBulkAll spare + 1
  | .agg parts => uptoBulkAll parts + 1
  | .iface _ d => uptoBulk d + 1
  | .map entries => uptoBulkEntries entries + 1
  | .held _ => 1
def uptoBulkAll {H : Type} : List (DataW H) → Nat
  | [] => 0
  | d :: r => uptoBulk d + uptoBulkAll r
def uptoBulkEntries {H : Type} : List (Lit × DataW H) → Nat
  | [] => 0
  | x :: r => uptoBulkEntry x + uptoBulkEntries r
def uptoBulkEntry {H : Type} : Lit × DataW H → Nat
  | (.string bytes, d) => bytes.length + uptoBulk d + 1
  | (_, d) => uptoBulk d + 1
 end
def uptoSmall : (H : Type) → List (DataW H) → Bool := fun _ ds => decide (uptoBulkAll ds ≤ 1048576)
def OpenSpec.upto (s : _root_.Go.ChangeSpec) : _root_.Go.OpenSpec := { _root_.Go.OpenSpec.ofChange s with cond := some uptoSmall }

/-- 'meniscuslaw14.SagLess', WHERE WHAT IT READS IS OF BULK AT MOST 1048576: true; the input reads as it did. -/
def sagLessUptoRow : OpenClaim := { program := "ytfhnddikghgbkaa", sum := "31936c157620eb2e859e874ad14cf2a268844a465832915154b04441f42100a1", func := "meniscus/meniscuslaw14.SagLess", spec := "sagLess", recurses := true, apart := false, narrowed := true }
def SagLessUptoSaid : Prop := sagLessUptoRow.holds Try.pinned (OpenSpec.upto sagLessSpec)

/-- 'meniscuslaw14.SagBalls', WHERE WHAT IT READS IS OF BULK AT MOST 1048576: true; the input reads as it did. -/
def sagBallsUptoRow : OpenClaim := { program := "ytfhnddikghgbkaa", sum := "31936c157620eb2e859e874ad14cf2a268844a465832915154b04441f42100a1", func := "meniscus/meniscuslaw14.SagBalls", spec := "sagBalls", apart := false, narrowed := true }
def SagBallsUptoSaid : Prop := sagBallsUptoRow.holds Try.pinned (OpenSpec.upto sagBallsSpec)

/-- 'meniscuslaw15.HitKnown', WHERE WHAT IT READS IS OF BULK AT MOST 1048576: true; the input reads as it did. -/
def hitKnownUptoRow : OpenClaim := { program := "ytfhnddikghgbkaa", sum := "31936c157620eb2e859e874ad14cf2a268844a465832915154b04441f42100a1", func := "meniscus/meniscuslaw15.HitKnown", spec := "hitKnown", unfollowed := true, recurses := true, apart := false, narrowed := true }
def HitKnownUptoSaid : Prop := hitKnownUptoRow.holds Try.pinned (OpenSpec.upto hitKnownSpec)

/-- 'meniscuslaw15.HitPlanes', WHERE WHAT IT READS IS OF BULK AT MOST 1048576: true; the input reads as it did. -/
def hitPlanesUptoRow : OpenClaim := { program := "ytfhnddikghgbkaa", sum := "31936c157620eb2e859e874ad14cf2a268844a465832915154b04441f42100a1", func := "meniscus/meniscuslaw15.HitPlanes", spec := "hitPlanes", unfollowed := true, recurses := true, apart := false, narrowed := true }
def HitPlanesUptoSaid : Prop := hitPlanesUptoRow.holds Try.pinned (OpenSpec.upto hitPlanesSpec)

end Rows
end Go.Proofs.Ytfhnddikghgbkaa
