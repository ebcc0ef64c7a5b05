/-
  No cell of these rows narrows 'for every input' (looked for: loops, veiled, ifaces, maps, wideKeys, modest, calm, conditions, laid).
  DERIVED. THE GIVEN ROWS OF THIS SEAT. 6 by the template 'for every input the law returns true; each argument reads behind the call as it read before'; 0 by the template 'total and deterministic' (their statements: YtggohceeeggnmaaTotals.lean).
  GIVEN WITH THE SEED: the statements are not yours to turn. If you find one false, say at which input.
  Laid BY PROGRAM, IN A SANDBOX (cutbox-rows.mjs): the forced cells as the released guide's own fill.sh prints them over the translation 75e3a8b3b2afbbf3… (all of the seat's roots in one cut). By AI agents, Wed Nov 11 2026. No macro, syntax, notation, axiom, sorry.
-/
import Derived.Test.YtggohceeeggnmaaChecked
import GoSem.Claim
import GoSem.ClaimJoined
import GoSem.ClaimMapViews
import Derived.JoinedTies
import Derived.KernelRfl
namespace Go.Proofs.Ytggohceeeggnmaa
/- THE CELL 'sum', in the pinned program and in every row, IS THE sha256 OF THE DUMP (.gsa) THAT YtggohceeeggnmaaProg.lean LOADS. Nothing in Lean hashes anything: it is a label: what it is worth is what the hold of that sum in a sandbox is worth. -/
noncomputable def Try.pinned : Pinned := { name := "ytggohceeeggnmaa", sum := "75e3a8b3b2afbbf3a1916b71cab02667280c3f8379962599fb29f62498d93443", checked := Try.checked }
namespace Rows
def none {H : Type} : Left H := { results := [], args := [] }

/-- 'meniscuslaw16.NormalKnown': WHATEVER THE INPUT: true; the input reads as it did. -/
def normalKnownSpec : ChangeSpec := { name := "normalKnown", fn := fun _ => fun
  | [] => { results := [.lit (.bool true)], args := [] }
  | _ => none }
def normalKnownRow : OpenClaim := { program := "ytggohceeeggnmaa", sum := "75e3a8b3b2afbbf3a1916b71cab02667280c3f8379962599fb29f62498d93443", func := "meniscus/meniscuslaw16.NormalKnown", spec := "normalKnown", apart := false }
def NormalKnownSaid : Prop := normalKnownRow.holds Try.pinned (OpenSpec.ofChange normalKnownSpec)

/-- ITS FALSE NEIGHBOUR: 'it returns false'. Refute it at one input. -/
def normalKnownWrong : ChangeSpec := { name := "normalKnown", fn := fun _ => fun
  | [] => { results := [.lit (.bool false)], args := [] }
  | _ => none }
def NormalKnownWrongFalsely : Prop := normalKnownRow.holds Try.pinned (OpenSpec.ofChange normalKnownWrong)

/-- 'meniscuslaw16.NormalTells': WHATEVER THE INPUT: true; the input reads as it did. -/
def normalTellsSpec : ChangeSpec := { name := "normalTells", fn := fun _ => fun
  | [d1, d2, d3, d4, d5, d6, d7, d8] => { results := [.lit (.bool true)], args := [d1, d2, d3, d4, d5, d6, d7, d8] }
  | _ => none }
def normalTellsRow : OpenClaim := { program := "ytggohceeeggnmaa", sum := "75e3a8b3b2afbbf3a1916b71cab02667280c3f8379962599fb29f62498d93443", func := "meniscus/meniscuslaw16.NormalTells", spec := "normalTells", recurses := true, apart := false }
def NormalTellsSaid : Prop := normalTellsRow.holds Try.pinned (OpenSpec.ofChange normalTellsSpec)

/-- ITS FALSE NEIGHBOUR: 'it returns false'. Refute it at one input. -/
def normalTellsWrong : ChangeSpec := { name := "normalTells", fn := fun _ => fun
  | [d1, d2, d3, d4, d5, d6, d7, d8] => { results := [.lit (.bool false)], args := [d1, d2, d3, d4, d5, d6, d7, d8] }
  | _ => none }
def NormalTellsWrongFalsely : Prop := normalTellsRow.holds Try.pinned (OpenSpec.ofChange normalTellsWrong)

/-- 'meniscuslaw16.NormalLess': WHATEVER THE INPUT: true; the input reads as it did. -/
def normalLessSpec : ChangeSpec := { name := "normalLess", fn := fun _ => fun
  | [d1, d2, d3, d4, d5, d6, d7, d8, d9] => { results := [.lit (.bool true)], args := [d1, d2, d3, d4, d5, d6, d7, d8, d9] }
  | _ => none }
def normalLessRow : OpenClaim := { program := "ytggohceeeggnmaa", sum := "75e3a8b3b2afbbf3a1916b71cab02667280c3f8379962599fb29f62498d93443", func := "meniscus/meniscuslaw16.NormalLess", spec := "normalLess", recurses := true, apart := false }
def NormalLessSaid : Prop := normalLessRow.holds Try.pinned (OpenSpec.ofChange normalLessSpec)

/-- ITS FALSE NEIGHBOUR: 'it returns false'. Refute it at one input. -/
def normalLessWrong : ChangeSpec := { name := "normalLess", fn := fun _ => fun
  | [d1, d2, d3, d4, d5, d6, d7, d8, d9] => { results := [.lit (.bool false)], args := [d1, d2, d3, d4, d5, d6, d7, d8, d9] }
  | _ => none }
def NormalLessWrongFalsely : Prop := normalLessRow.holds Try.pinned (OpenSpec.ofChange normalLessWrong)

/-- 'meniscuslaw16.NormalBalls': WHATEVER THE INPUT: true; the input reads as it did. -/
def normalBallsSpec : ChangeSpec := { name := "normalBalls", fn := fun _ => fun
  | [d1, d2, d3] => { results := [.lit (.bool true)], args := [d1, d2, d3] }
  | _ => none }
def normalBallsRow : OpenClaim := { program := "ytggohceeeggnmaa", sum := "75e3a8b3b2afbbf3a1916b71cab02667280c3f8379962599fb29f62498d93443", func := "meniscus/meniscuslaw16.NormalBalls", spec := "normalBalls", apart := false }
def NormalBallsSaid : Prop := normalBallsRow.holds Try.pinned (OpenSpec.ofChange normalBallsSpec)

/-- ITS FALSE NEIGHBOUR: 'it returns false'. Refute it at one input. -/
def normalBallsWrong : ChangeSpec := { name := "normalBalls", fn := fun _ => fun
  | [d1, d2, d3] => { results := [.lit (.bool false)], args := [d1, d2, d3] }
  | _ => none }
def NormalBallsWrongFalsely : Prop := normalBallsRow.holds Try.pinned (OpenSpec.ofChange normalBallsWrong)

/-- 'meniscuslaw15.HitPlanes': WHATEVER THE INPUT: true; the input reads as it did. -/
def hitPlanesSpec : ChangeSpec := { name := "hitPlanes", fn := fun _ => fun
  | [d1, d2, d3, d4, d5, d6] => { results := [.lit (.bool true)], args := [d1, d2, d3, d4, d5, d6] }
  | _ => none }
def hitPlanesRow : OpenClaim := { program := "ytggohceeeggnmaa", sum := "75e3a8b3b2afbbf3a1916b71cab02667280c3f8379962599fb29f62498d93443", func := "meniscus/meniscuslaw15.HitPlanes", spec := "hitPlanes", unfollowed := true, recurses := true, apart := false }
def HitPlanesSaid : Prop := hitPlanesRow.holds Try.pinned (OpenSpec.ofChange hitPlanesSpec)

/-- ITS FALSE NEIGHBOUR: 'it returns false'. Refute it at one input. -/
def hitPlanesWrong : ChangeSpec := { name := "hitPlanes", fn := fun _ => fun
  | [d1, d2, d3, d4, d5, d6] => { results := [.lit (.bool false)], args := [d1, d2, d3, d4, d5, d6] }
  | _ => none }
def HitPlanesWrongFalsely : Prop := hitPlanesRow.holds Try.pinned (OpenSpec.ofChange hitPlanesWrong)

/-- 'meniscuslaw14.SagLess': WHATEVER THE INPUT: true; the input reads as it did. -/
def sagLessSpec : ChangeSpec := { name := "sagLess", fn := fun _ => fun
  | [d1, d2, d3, d4, d5, d6] => { results := [.lit (.bool true)], args := [d1, d2, d3, d4, d5, d6] }
  | _ => none }
def sagLessRow : OpenClaim := { program := "ytggohceeeggnmaa", sum := "75e3a8b3b2afbbf3a1916b71cab02667280c3f8379962599fb29f62498d93443", func := "meniscus/meniscuslaw14.SagLess", spec := "sagLess", recurses := true, apart := false }
def SagLessSaid : Prop := sagLessRow.holds Try.pinned (OpenSpec.ofChange sagLessSpec)

/-- ITS FALSE NEIGHBOUR: 'it returns false'. Refute it at one input. -/
def sagLessWrong : ChangeSpec := { name := "sagLess", fn := fun _ => fun
  | [d1, d2, d3, d4, d5, d6] => { results := [.lit (.bool false)], args := [d1, d2, d3, d4, d5, d6] }
  | _ => none }
def SagLessWrongFalsely : Prop := sagLessRow.holds Try.pinned (OpenSpec.ofChange sagLessWrong)

/- THE SECOND FORM. 'bulk': how many values and letters a reading holds, each counted each time it is reached (what is shared counts as often as it is met; a slice's spare places count too). A statement '..UptoSaid' is the law's where the arguments, and the package variables that the reading takes, are together of bulk at most 1048576: NARROWER than '..Said'. Prove '..Said' where nothing that the law and all that it calls make is longer than what came in: it says more and counts as full. Else prove '..UptoSaid'. A law counts once. -/
mutual
def uptoBulk {H : Type} : DataW H → Nat
  | .lit (.string bytes) => bytes.length + 1
  | .lit _ => 1
  | .nil => 1
  | .ptr d => uptoBulk d + 1
  | .slice elems spare => uptoBulkAll elems + uptoBulkAll spare + 1
  | .agg parts => uptoBulkAll parts + 1
  | .iface _ d => uptoBulk d + 1
  | .map entries => uptoBulkEntries entries + 1
  | .held _ => 1
def uptoBulkAll {H : Type} : List (DataW H) → Nat
  | [] => 0
  | d :: r => uptoBulk d + uptoBulkAll r
def uptoBulkEntries {H : Type} : List (Lit × DataW H) → Nat
  | [] => 0
  | x :: r => uptoBulkEntry x + uptoBulkEntries r
def uptoBulkEntry {H : Type} : Lit × DataW H → Nat
  | (.string bytes, d) => bytes.length + uptoBulk d + 1
  | (_, d) => uptoBulk d + 1
 end
def uptoSmall : (H : Type) → List (DataW H) → Bool := fun _ ds => decide (uptoBulkAll ds ≤ 1048576)
def OpenSpec.upto (s : _root_.Go.ChangeSpec) : _root_.Go.OpenSpec := { _root_.Go.OpenSpec.ofChange s with cond := some uptoSmall }

/-- 'meniscuslaw16.NormalKnown', WHERE WHAT IT READS IS OF BULK AT MOST 1048576: true; the input reads as it did. -/
def normalKnownUptoRow : OpenClaim := { program := "ytggohceeeggnmaa", sum := "75e3a8b3b2afbbf3a1916b71cab02667280c3f8379962599fb29f62498d93443", func := "meniscus/meniscuslaw16.NormalKnown", spec := "normalKnown", apart := false, narrowed := true }
def NormalKnownUptoSaid : Prop := normalKnownUptoRow.holds Try.pinned (OpenSpec.upto normalKnownSpec)

/-- 'meniscuslaw16.NormalTells', WHERE WHAT IT READS IS OF BULK AT MOST 1048576: true; the input reads as it did. -/
def normalTellsUptoRow : OpenClaim := { program := "ytggohceeeggnmaa", sum := "75e3a8b3b2afbbf3a1916b71cab02667280c3f8379962599fb29f62498d93443", func := "meniscus/meniscuslaw16.NormalTells", spec := "normalTells", recurses := true, apart := false, narrowed := true }
def NormalTellsUptoSaid : Prop := normalTellsUptoRow.holds Try.pinned (OpenSpec.upto normalTellsSpec)

/-- 'meniscuslaw16.NormalLess', WHERE WHAT IT READS IS OF BULK AT MOST 1048576: true; the input reads as it did. -/
def normalLessUptoRow : OpenClaim := { program := "ytggohceeeggnmaa", sum := "75e3a8b3b2afbbf3a1916b71cab02667280c3f8379962599fb29f62498d93443", func := "meniscus/meniscuslaw16.NormalLess", spec := "normalLess", recurses := true, apart := false, narrowed := true }
def NormalLessUptoSaid : Prop := normalLessUptoRow.holds Try.pinned (OpenSpec.upto normalLessSpec)

/-- 'meniscuslaw16.NormalBalls', WHERE WHAT IT READS IS OF BULK AT MOST 1048576: true; the input reads as it did. -/
def normalBallsUptoRow : OpenClaim := { program := "ytggohceeeggnmaa", sum := "75e3a8b3b2afbbf3a1916b71cab02667280c3f8379962599fb29f62498d93443", func := "meniscus/meniscuslaw16.NormalBalls", spec := "normalBalls", apart := false, narrowed := true }
def NormalBallsUptoSaid : Prop := normalBallsUptoRow.holds Try.pinned (OpenSpec.upto normalBallsSpec)

/-- 'meniscuslaw15.HitPlanes', WHERE WHAT IT READS IS OF BULK AT MOST 1048576: true; the input reads as it did. -/
def hitPlanesUptoRow : OpenClaim := { program := "ytggohceeeggnmaa", sum := "75e3a8b3b2afbbf3a1916b71cab02667280c3f8379962599fb29f62498d93443", func := "meniscus/meniscuslaw15.HitPlanes", spec := "hitPlanes", unfollowed := true, recurses := true, apart := false, narrowed := true }
def HitPlanesUptoSaid : Prop := hitPlanesUptoRow.holds Try.pinned (OpenSpec.upto hitPlanesSpec)

/-- 'meniscuslaw14.SagLess', WHERE WHAT IT READS IS OF BULK AT MOST 1048576: true; the input reads as it did. -/
def sagLessUptoRow : OpenClaim := { program := "ytggohceeeggnmaa", sum := "75e3a8b3b2afbbf3a1916b71cab02667280c3f8379962599fb29f62498d93443", func := "meniscus/meniscuslaw14.SagLess", spec := "sagLess", recurses := true, apart := false, narrowed := true }
def SagLessUptoSaid : Prop := sagLessUptoRow.holds Try.pinned (OpenSpec.upto sagLessSpec)

end Rows
end Go.Proofs.Ytggohceeeggnmaa
