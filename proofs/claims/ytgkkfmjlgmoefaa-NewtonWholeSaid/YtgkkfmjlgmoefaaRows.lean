/-
  No cell of these rows narrows 'for every input' (looked for: loops, veiled, ifaces, maps, wideKeys, modest, calm, conditions, laid).
  DERIVED. THE GIVEN ROWS OF THIS SEAT. 8 by the template 'for every input the law returns true; each argument reads behind the call as it read before'; 0 by the template 'total and deterministic' (their statements: YtgkkfmjlgmoefaaTotals.lean).
  GIVEN WITH THE SEED: the statements are not yours to turn. If you find one false, say at which input.
  Laid BY PROGRAM, IN A SANDBOX (cutbox-rows.mjs): the forced cells as the released guide's own fill.sh prints them over the translation 83a4f24f8de866b3… (all of the seat's roots in one cut). By AI agents, Wed Nov 11 2026. No macro, syntax, notation, axiom, sorry.
-/
import Derived.Test.YtgkkfmjlgmoefaaChecked
import GoSem.Claim
import GoSem.ClaimJoined
import GoSem.ClaimMapViews
import Derived.JoinedTies
import Derived.KernelRfl
namespace Go.Proofs.Ytgkkfmjlgmoefaa
/- THE CELL 'sum', in the pinned program and in every row, IS THE sha256 OF THE DUMP (.gsa) THAT YtgkkfmjlgmoefaaProg.lean LOADS. Nothing in Lean hashes anything: it is a label: what it is worth is what the hold of that sum in a sandbox is worth. -/
noncomputable def Try.pinned : Pinned := { name := "ytgkkfmjlgmoefaa", sum := "83a4f24f8de866b3f6243870cb8f0cb3f40babe4e75c8ac76bb5d90a68f18340", checked := Try.checked }
namespace Rows
def none {H : Type} : Left H := { results := [], args := [] }

/-- 'meniscuslaw4.PolyKnown': WHATEVER THE INPUT: true; the input reads as it did. -/
def polyKnownSpec : ChangeSpec := { name := "polyKnown", fn := fun _ => fun
  | [] => { results := [.lit (.bool true)], args := [] }
  | _ => none }
def polyKnownRow : OpenClaim := { program := "ytgkkfmjlgmoefaa", sum := "83a4f24f8de866b3f6243870cb8f0cb3f40babe4e75c8ac76bb5d90a68f18340", func := "meniscus/meniscuslaw4.PolyKnown", spec := "polyKnown", apart := false }
def PolyKnownSaid : Prop := polyKnownRow.holds Try.pinned (OpenSpec.ofChange polyKnownSpec)

/-- ITS FALSE NEIGHBOUR: 'it returns false'. Refute it at one input. -/
def polyKnownWrong : ChangeSpec := { name := "polyKnown", fn := fun _ => fun
  | [] => { results := [.lit (.bool false)], args := [] }
  | _ => none }
def PolyKnownWrongFalsely : Prop := polyKnownRow.holds Try.pinned (OpenSpec.ofChange polyKnownWrong)

/-- 'meniscuslaw4.PolyEncloses': WHATEVER THE INPUT: true; the input reads as it did. -/
def polyEnclosesSpec : ChangeSpec := { name := "polyEncloses", fn := fun _ => fun
  | [d1, d2, d3, d4] => { results := [.lit (.bool true)], args := [d1, d2, d3, d4] }
  | _ => none }
def polyEnclosesRow : OpenClaim := { program := "ytgkkfmjlgmoefaa", sum := "83a4f24f8de866b3f6243870cb8f0cb3f40babe4e75c8ac76bb5d90a68f18340", func := "meniscus/meniscuslaw4.PolyEncloses", spec := "polyEncloses", apart := false }
def PolyEnclosesSaid : Prop := polyEnclosesRow.holds Try.pinned (OpenSpec.ofChange polyEnclosesSpec)

/-- ITS FALSE NEIGHBOUR: 'it returns false'. Refute it at one input. -/
def polyEnclosesWrong : ChangeSpec := { name := "polyEncloses", fn := fun _ => fun
  | [d1, d2, d3, d4] => { results := [.lit (.bool false)], args := [d1, d2, d3, d4] }
  | _ => none }
def PolyEnclosesWrongFalsely : Prop := polyEnclosesRow.holds Try.pinned (OpenSpec.ofChange polyEnclosesWrong)

/-- 'meniscuslaw4.PolySlopes': WHATEVER THE INPUT: true; the input reads as it did. -/
def polySlopesSpec : ChangeSpec := { name := "polySlopes", fn := fun _ => fun
  | [d1, d2, d3, d4] => { results := [.lit (.bool true)], args := [d1, d2, d3, d4] }
  | _ => none }
def polySlopesRow : OpenClaim := { program := "ytgkkfmjlgmoefaa", sum := "83a4f24f8de866b3f6243870cb8f0cb3f40babe4e75c8ac76bb5d90a68f18340", func := "meniscus/meniscuslaw4.PolySlopes", spec := "polySlopes", apart := false }
def PolySlopesSaid : Prop := polySlopesRow.holds Try.pinned (OpenSpec.ofChange polySlopesSpec)

/-- ITS FALSE NEIGHBOUR: 'it returns false'. Refute it at one input. -/
def polySlopesWrong : ChangeSpec := { name := "polySlopes", fn := fun _ => fun
  | [d1, d2, d3, d4] => { results := [.lit (.bool false)], args := [d1, d2, d3, d4] }
  | _ => none }
def PolySlopesWrongFalsely : Prop := polySlopesRow.holds Try.pinned (OpenSpec.ofChange polySlopesWrong)

/-- 'meniscuslaw7.NewtonKnown': WHATEVER THE INPUT: true; the input reads as it did. -/
def newtonKnownSpec : ChangeSpec := { name := "newtonKnown", fn := fun _ => fun
  | [] => { results := [.lit (.bool true)], args := [] }
  | _ => none }
def newtonKnownRow : OpenClaim := { program := "ytgkkfmjlgmoefaa", sum := "83a4f24f8de866b3f6243870cb8f0cb3f40babe4e75c8ac76bb5d90a68f18340", func := "meniscus/meniscuslaw7.NewtonKnown", spec := "newtonKnown", unfollowed := true, recurses := true, apart := false }
def NewtonKnownSaid : Prop := newtonKnownRow.holds Try.pinned (OpenSpec.ofChange newtonKnownSpec)

/-- ITS FALSE NEIGHBOUR: 'it returns false'. Refute it at one input. -/
def newtonKnownWrong : ChangeSpec := { name := "newtonKnown", fn := fun _ => fun
  | [] => { results := [.lit (.bool false)], args := [] }
  | _ => none }
def NewtonKnownWrongFalsely : Prop := newtonKnownRow.holds Try.pinned (OpenSpec.ofChange newtonKnownWrong)

/-- 'meniscuslaw7.NewtonTells': WHATEVER THE INPUT: true; the input reads as it did. -/
def newtonTellsSpec : ChangeSpec := { name := "newtonTells", fn := fun _ => fun
  | [d1, d2, d3, d4, d5] => { results := [.lit (.bool true)], args := [d1, d2, d3, d4, d5] }
  | _ => none }
def newtonTellsRow : OpenClaim := { program := "ytgkkfmjlgmoefaa", sum := "83a4f24f8de866b3f6243870cb8f0cb3f40babe4e75c8ac76bb5d90a68f18340", func := "meniscus/meniscuslaw7.NewtonTells", spec := "newtonTells", unfollowed := true, recurses := true, apart := false }
def NewtonTellsSaid : Prop := newtonTellsRow.holds Try.pinned (OpenSpec.ofChange newtonTellsSpec)

/-- ITS FALSE NEIGHBOUR: 'it returns false'. Refute it at one input. -/
def newtonTellsWrong : ChangeSpec := { name := "newtonTells", fn := fun _ => fun
  | [d1, d2, d3, d4, d5] => { results := [.lit (.bool false)], args := [d1, d2, d3, d4, d5] }
  | _ => none }
def NewtonTellsWrongFalsely : Prop := newtonTellsRow.holds Try.pinned (OpenSpec.ofChange newtonTellsWrong)

/-- 'meniscuslaw7.NewtonRoots': WHATEVER THE INPUT: true; the input reads as it did. -/
def newtonRootsSpec : ChangeSpec := { name := "newtonRoots", fn := fun _ => fun
  | [d1, d2, d3, d4] => { results := [.lit (.bool true)], args := [d1, d2, d3, d4] }
  | _ => none }
def newtonRootsRow : OpenClaim := { program := "ytgkkfmjlgmoefaa", sum := "83a4f24f8de866b3f6243870cb8f0cb3f40babe4e75c8ac76bb5d90a68f18340", func := "meniscus/meniscuslaw7.NewtonRoots", spec := "newtonRoots", unfollowed := true, recurses := true, apart := false }
def NewtonRootsSaid : Prop := newtonRootsRow.holds Try.pinned (OpenSpec.ofChange newtonRootsSpec)

/-- ITS FALSE NEIGHBOUR: 'it returns false'. Refute it at one input. -/
def newtonRootsWrong : ChangeSpec := { name := "newtonRoots", fn := fun _ => fun
  | [d1, d2, d3, d4] => { results := [.lit (.bool false)], args := [d1, d2, d3, d4] }
  | _ => none }
def NewtonRootsWrongFalsely : Prop := newtonRootsRow.holds Try.pinned (OpenSpec.ofChange newtonRootsWrong)

/-- 'meniscuslaw7.NewtonAsks': WHATEVER THE INPUT: true; the input reads as it did. -/
def newtonAsksSpec : ChangeSpec := { name := "newtonAsks", fn := fun _ => fun
  | [d1, d2, d3, d4] => { results := [.lit (.bool true)], args := [d1, d2, d3, d4] }
  | _ => none }
def newtonAsksRow : OpenClaim := { program := "ytgkkfmjlgmoefaa", sum := "83a4f24f8de866b3f6243870cb8f0cb3f40babe4e75c8ac76bb5d90a68f18340", func := "meniscus/meniscuslaw7.NewtonAsks", spec := "newtonAsks", unfollowed := true, recurses := true, apart := false }
def NewtonAsksSaid : Prop := newtonAsksRow.holds Try.pinned (OpenSpec.ofChange newtonAsksSpec)

/-- ITS FALSE NEIGHBOUR: 'it returns false'. Refute it at one input. -/
def newtonAsksWrong : ChangeSpec := { name := "newtonAsks", fn := fun _ => fun
  | [d1, d2, d3, d4] => { results := [.lit (.bool false)], args := [d1, d2, d3, d4] }
  | _ => none }
def NewtonAsksWrongFalsely : Prop := newtonAsksRow.holds Try.pinned (OpenSpec.ofChange newtonAsksWrong)

/-- 'meniscuslaw7.NewtonWhole': WHATEVER THE INPUT: true; the input reads as it did. -/
def newtonWholeSpec : ChangeSpec := { name := "newtonWhole", fn := fun _ => fun
  | [d1, d2, d3, d4, d5] => { results := [.lit (.bool true)], args := [d1, d2, d3, d4, d5] }
  | _ => none }
def newtonWholeRow : OpenClaim := { program := "ytgkkfmjlgmoefaa", sum := "83a4f24f8de866b3f6243870cb8f0cb3f40babe4e75c8ac76bb5d90a68f18340", func := "meniscus/meniscuslaw7.NewtonWhole", spec := "newtonWhole", unfollowed := true, recurses := true, apart := false }
def NewtonWholeSaid : Prop := newtonWholeRow.holds Try.pinned (OpenSpec.ofChange newtonWholeSpec)

/-- ITS FALSE NEIGHBOUR: 'it returns false'. Refute it at one input. -/
def newtonWholeWrong : ChangeSpec := { name := "newtonWhole", fn := fun _ => fun
  | [d1, d2, d3, d4, d5] => { results := [.lit (.bool false)], args := [d1, d2, d3, d4, d5] }
  | _ => none }
def NewtonWholeWrongFalsely : Prop := newtonWholeRow.holds Try.pinned (OpenSpec.ofChange newtonWholeWrong)

/- THE SECOND FORM. 'bulk': how many values and letters a reading holds, each counted each time it is reached (what is shared counts as often as it is met; a slice's spare places count too). A statement '..UptoSaid' is the law's where the arguments, and the package variables that the reading takes, are together of bulk at most 1048576: NARROWER than '..Said'. Prove '..Said' where nothing that the law and all that it calls make is longer than what came in: it says more and counts as full. Else prove '..UptoSaid'. A law counts once. -/
mutual
def uptoBulk {H : Type} : DataW H → Nat
  | .lit (.string bytes) => bytes.length + 1
  | .lit _ => 1
  | .nil => 1
  | .ptr d => uptoBulk d + 1
  | .slice elems spare => uptoBulkAll elems + uptoBulkAll spare + 1
  | .agg parts => uptoBulkAll parts + 1
  | .iface _ d => uptoBulk d + 1
  | .map entries => uptoBulkEntries entries + 1
  | .held _ => 1
def uptoBulkAll {H : Type} : List (DataW H) → Nat
  | [] => 0
  | d :: r => uptoBulk d + uptoBulkAll r
def uptoBulkEntries {H : Type} : List (Lit × DataW H) → Nat
  | [] => 0
  | x :: r => uptoBulkEntry x + uptoBulkEntries r
def uptoBulkEntry {H : Type} : Lit × DataW H → Nat
  | (.string bytes, d) => bytes.length + uptoBulk d + 1
  | (_, d) => uptoBulk d + 1
 end
def uptoSmall : (H : Type) → List (DataW H) → Bool := fun _ ds => decide (uptoBulkAll ds ≤ 1048576)
def OpenSpec.upto (s : _root_.Go.ChangeSpec) : _root_.Go.OpenSpec := { _root_.Go.OpenSpec.ofChange s with cond := some uptoSmall }

/-- 'meniscuslaw4.PolyKnown', WHERE WHAT IT READS IS OF BULK AT MOST 1048576: true; the input reads as it did. -/
def polyKnownUptoRow : OpenClaim := { program := "ytgkkfmjlgmoefaa", sum := "83a4f24f8de866b3f6243870cb8f0cb3f40babe4e75c8ac76bb5d90a68f18340", func := "meniscus/meniscuslaw4.PolyKnown", spec := "polyKnown", apart := false, narrowed := true }
def PolyKnownUptoSaid : Prop := polyKnownUptoRow.holds Try.pinned (OpenSpec.upto polyKnownSpec)

/-- 'meniscuslaw4.PolyEncloses', WHERE WHAT IT READS IS OF BULK AT MOST 1048576: true; the input reads as it did. -/
def polyEnclosesUptoRow : OpenClaim := { program := "ytgkkfmjlgmoefaa", sum := "83a4f24f8de866b3f6243870cb8f0cb3f40babe4e75c8ac76bb5d90a68f18340", func := "meniscus/meniscuslaw4.PolyEncloses", spec := "polyEncloses", apart := false, narrowed := true }
def PolyEnclosesUptoSaid : Prop := polyEnclosesUptoRow.holds Try.pinned (OpenSpec.upto polyEnclosesSpec)

/-- 'meniscuslaw4.PolySlopes', WHERE WHAT IT READS IS OF BULK AT MOST 1048576: true; the input reads as it did. -/
def polySlopesUptoRow : OpenClaim := { program := "ytgkkfmjlgmoefaa", sum := "83a4f24f8de866b3f6243870cb8f0cb3f40babe4e75c8ac76bb5d90a68f18340", func := "meniscus/meniscuslaw4.PolySlopes", spec := "polySlopes", apart := false, narrowed := true }
def PolySlopesUptoSaid : Prop := polySlopesUptoRow.holds Try.pinned (OpenSpec.upto polySlopesSpec)

/-- 'meniscuslaw7.NewtonKnown', WHERE WHAT IT READS IS OF BULK AT MOST 1048576: true; the input reads as it did. -/
def newtonKnownUptoRow : OpenClaim := { program := "ytgkkfmjlgmoefaa", sum := "83a4f24f8de866b3f6243870cb8f0cb3f40babe4e75c8ac76bb5d90a68f18340", func := "meniscus/meniscuslaw7.NewtonKnown", spec := "newtonKnown", unfollowed := true, recurses := true, apart := false, narrowed := true }
def NewtonKnownUptoSaid : Prop := newtonKnownUptoRow.holds Try.pinned (OpenSpec.upto newtonKnownSpec)

/-- 'meniscuslaw7.NewtonTells', WHERE WHAT IT READS IS OF BULK AT MOST 1048576: true; the input reads as it did. -/
def newtonTellsUptoRow : OpenClaim := { program := "ytgkkfmjlgmoefaa", sum := "83a4f24f8de866b3f6243870cb8f0cb3f40babe4e75c8ac76bb5d90a68f18340", func := "meniscus/meniscuslaw7.NewtonTells", spec := "newtonTells", unfollowed := true, recurses := true, apart := false, narrowed := true }
def NewtonTellsUptoSaid : Prop := newtonTellsUptoRow.holds Try.pinned (OpenSpec.upto newtonTellsSpec)

/-- 'meniscuslaw7.NewtonRoots', WHERE WHAT IT READS IS OF BULK AT MOST 1048576: true; the input reads as it did. -/
def newtonRootsUptoRow : OpenClaim := { program := "ytgkkfmjlgmoefaa", sum := "83a4f24f8de866b3f6243870cb8f0cb3f40babe4e75c8ac76bb5d90a68f18340", func := "meniscus/meniscuslaw7.NewtonRoots", spec := "newtonRoots", unfollowed := true, recurses := true, apart := false, narrowed := true }
def NewtonRootsUptoSaid : Prop := newtonRootsUptoRow.holds Try.pinned (OpenSpec.upto newtonRootsSpec)

/-- 'meniscuslaw7.NewtonAsks', WHERE WHAT IT READS IS OF BULK AT MOST 1048576: true; the input reads as it did. -/
def newtonAsksUptoRow : OpenClaim := { program := "ytgkkfmjlgmoefaa", sum := "83a4f24f8de866b3f6243870cb8f0cb3f40babe4e75c8ac76bb5d90a68f18340", func := "meniscus/meniscuslaw7.NewtonAsks", spec := "newtonAsks", unfollowed := true, recurses := true, apart := false, narrowed := true }
def NewtonAsksUptoSaid : Prop := newtonAsksUptoRow.holds Try.pinned (OpenSpec.upto newtonAsksSpec)

/-- 'meniscuslaw7.NewtonWhole', WHERE WHAT IT READS IS OF BULK AT MOST 1048576: true; the input reads as it did. -/
def newtonWholeUptoRow : OpenClaim := { program := "ytgkkfmjlgmoefaa", sum := "83a4f24f8de866b3f6243870cb8f0cb3f40babe4e75c8ac76bb5d90a68f18340", func := "meniscus/meniscuslaw7.NewtonWhole", spec := "newtonWhole", unfollowed := true, recurses := true, apart := false, narrowed := true }
def NewtonWholeUptoSaid : Prop := newtonWholeUptoRow.holds Try.pinned (OpenSpec.upto newtonWholeSpec)

end Rows
end Go.Proofs.Ytgkkfmjlgmoefaa
