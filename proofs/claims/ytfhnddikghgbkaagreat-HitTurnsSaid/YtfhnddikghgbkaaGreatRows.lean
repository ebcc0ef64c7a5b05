/-
  No cell of these rows narrows 'for every input' (looked for: loops, veiled, ifaces, maps, wideKeys, modest, calm, conditions, laid).
  DERIVED. THE GIVEN ROWS OF THIS SEAT. 5 by the template 'for every input the law returns true; each argument reads behind the call as it read before'; 0 by the template 'total and deterministic' (their statements: YtfhnddikghgbkaaGreatTotals.lean).
  GIVEN WITH THE SEED: the statements are not yours to turn. If you find one false, say at which input.
  Laid BY PROGRAM, IN A SANDBOX (cutbox-rows.mjs): the forced cells as the released guide's own fill.sh prints them over the translation 5df9f0e297c6680e… (all of the seat's roots in one cut). By AI agents, Wed Nov 11 2026. No macro, syntax, notation, axiom, sorry.
-/
import Derived.Test.YtfhnddikghgbkaaGreatChecked
import GoSem.Claim
import GoSem.ClaimJoined
import GoSem.ClaimMapViews
import Derived.JoinedTies
import Derived.KernelRfl
namespace Go.Proofs.YtfhnddikghgbkaaGreat
/- THE CELL 'sum', in the pinned program and in every row, IS THE sha256 OF THE DUMP (.gsa) THAT YtfhnddikghgbkaaGreatProg.lean LOADS. Nothing in Lean hashes anything: it is a label: what it is worth is what the hold of that sum in a sandbox is worth. -/
noncomputable def Tryz.pinned : Pinned := { name := "ytfhnddikghgbkaagreat", sum := "5df9f0e297c6680efa0124a3455889d2e42614e8b50a5f8a3416a729021c57ca", checked := Tryz.checked }
namespace Rows
def none {H : Type} : Left H := { results := [], args := [] }

/-- 'meniscuslaw15.HitTells': WHATEVER THE INPUT: true; the input reads as it did. -/
def hitTellsSpec : ChangeSpec := { name := "hitTells", fn := fun _ => fun
  | [d1, d2, d3, d4, d5, d6] => { results := [.lit (.bool true)], args := [d1, d2, d3, d4, d5, d6] }
  | _ => none }
def hitTellsRow : OpenClaim := { program := "ytfhnddikghgbkaagreat", sum := "5df9f0e297c6680efa0124a3455889d2e42614e8b50a5f8a3416a729021c57ca", func := "meniscus/meniscuslaw15.HitTells", spec := "hitTells", unfollowed := true, recurses := true, apart := false }
def HitTellsSaid : Prop := hitTellsRow.holds Tryz.pinned (OpenSpec.ofChange hitTellsSpec)

/-- ITS FALSE NEIGHBOUR: 'it returns false'. Refute it at one input. -/
def hitTellsWrong : ChangeSpec := { name := "hitTells", fn := fun _ => fun
  | [d1, d2, d3, d4, d5, d6] => { results := [.lit (.bool false)], args := [d1, d2, d3, d4, d5, d6] }
  | _ => none }
def HitTellsWrongFalsely : Prop := hitTellsRow.holds Tryz.pinned (OpenSpec.ofChange hitTellsWrong)

/-- 'meniscuslaw15.HitLess': WHATEVER THE INPUT: true; the input reads as it did. -/
def hitLessSpec : ChangeSpec := { name := "hitLess", fn := fun _ => fun
  | [d1, d2, d3, d4, d5] => { results := [.lit (.bool true)], args := [d1, d2, d3, d4, d5] }
  | _ => none }
def hitLessRow : OpenClaim := { program := "ytfhnddikghgbkaagreat", sum := "5df9f0e297c6680efa0124a3455889d2e42614e8b50a5f8a3416a729021c57ca", func := "meniscus/meniscuslaw15.HitLess", spec := "hitLess", unfollowed := true, recurses := true, apart := false }
def HitLessSaid : Prop := hitLessRow.holds Tryz.pinned (OpenSpec.ofChange hitLessSpec)

/-- ITS FALSE NEIGHBOUR: 'it returns false'. Refute it at one input. -/
def hitLessWrong : ChangeSpec := { name := "hitLess", fn := fun _ => fun
  | [d1, d2, d3, d4, d5] => { results := [.lit (.bool false)], args := [d1, d2, d3, d4, d5] }
  | _ => none }
def HitLessWrongFalsely : Prop := hitLessRow.holds Tryz.pinned (OpenSpec.ofChange hitLessWrong)

/-- 'meniscuslaw15.HitOn': WHATEVER THE INPUT: true; the input reads as it did. -/
def hitOnSpec : ChangeSpec := { name := "hitOn", fn := fun _ => fun
  | [d1, d2, d3] => { results := [.lit (.bool true)], args := [d1, d2, d3] }
  | _ => none }
def hitOnRow : OpenClaim := { program := "ytfhnddikghgbkaagreat", sum := "5df9f0e297c6680efa0124a3455889d2e42614e8b50a5f8a3416a729021c57ca", func := "meniscus/meniscuslaw15.HitOn", spec := "hitOn", unfollowed := true, recurses := true, apart := false }
def HitOnSaid : Prop := hitOnRow.holds Tryz.pinned (OpenSpec.ofChange hitOnSpec)

/-- ITS FALSE NEIGHBOUR: 'it returns false'. Refute it at one input. -/
def hitOnWrong : ChangeSpec := { name := "hitOn", fn := fun _ => fun
  | [d1, d2, d3] => { results := [.lit (.bool false)], args := [d1, d2, d3] }
  | _ => none }
def HitOnWrongFalsely : Prop := hitOnRow.holds Tryz.pinned (OpenSpec.ofChange hitOnWrong)

/-- 'meniscuslaw15.HitTurns': WHATEVER THE INPUT: true; the input reads as it did. -/
def hitTurnsSpec : ChangeSpec := { name := "hitTurns", fn := fun _ => fun
  | [d1, d2, d3, d4] => { results := [.lit (.bool true)], args := [d1, d2, d3, d4] }
  | _ => none }
def hitTurnsRow : OpenClaim := { program := "ytfhnddikghgbkaagreat", sum := "5df9f0e297c6680efa0124a3455889d2e42614e8b50a5f8a3416a729021c57ca", func := "meniscus/meniscuslaw15.HitTurns", spec := "hitTurns", unfollowed := true, recurses := true, apart := false }
def HitTurnsSaid : Prop := hitTurnsRow.holds Tryz.pinned (OpenSpec.ofChange hitTurnsSpec)

/-- ITS FALSE NEIGHBOUR: 'it returns false'. Refute it at one input. -/
def hitTurnsWrong : ChangeSpec := { name := "hitTurns", fn := fun _ => fun
  | [d1, d2, d3, d4] => { results := [.lit (.bool false)], args := [d1, d2, d3, d4] }
  | _ => none }
def HitTurnsWrongFalsely : Prop := hitTurnsRow.holds Tryz.pinned (OpenSpec.ofChange hitTurnsWrong)

/-- 'meniscuslaw15.HitMoves': WHATEVER THE INPUT: true; the input reads as it did. -/
def hitMovesSpec : ChangeSpec := { name := "hitMoves", fn := fun _ => fun
  | [d1, d2, d3, d4] => { results := [.lit (.bool true)], args := [d1, d2, d3, d4] }
  | _ => none }
def hitMovesRow : OpenClaim := { program := "ytfhnddikghgbkaagreat", sum := "5df9f0e297c6680efa0124a3455889d2e42614e8b50a5f8a3416a729021c57ca", func := "meniscus/meniscuslaw15.HitMoves", spec := "hitMoves", unfollowed := true, recurses := true, apart := false }
def HitMovesSaid : Prop := hitMovesRow.holds Tryz.pinned (OpenSpec.ofChange hitMovesSpec)

/-- ITS FALSE NEIGHBOUR: 'it returns false'. Refute it at one input. -/
def hitMovesWrong : ChangeSpec := { name := "hitMoves", fn := fun _ => fun
  | [d1, d2, d3, d4] => { results := [.lit (.bool false)], args := [d1, d2, d3, d4] }
  | _ => none }
def HitMovesWrongFalsely : Prop := hitMovesRow.holds Tryz.pinned (OpenSpec.ofChange hitMovesWrong)

/- THE SECOND FORM. 'bulk': how many values and letters a reading holds, each counted each time it is reached (what is shared counts as often as it is met; a slice's spare places count too). A statement '..UptoSaid' is the law's where the arguments, and the package variables that the reading takes, are together of bulk at most 1048576: NARROWER than '..Said'. Prove '..Said' where nothing that the law and all that it calls make is longer than what came in: it says more and counts as full. Else prove '..UptoSaid'. A law counts once. -/
mutual
def uptoBulk {H : Type} : DataW H → Nat
  | .lit (.string bytes) => bytes.length + 1
  | .lit _ => 1
  | .nil => 1
  | .ptr d => uptoBulk d + 1
  | .slice elems spare => uptoBulkAll elems + uptoBulkAll spare + 1
  | .agg parts => uptoBulkAll parts + 1
  | .iface _ d => uptoBulk d + 1
  | .map entries => uptoBulkEntries entries + 1
  | .held _ => 1
def uptoBulkAll {H : Type} : List (DataW H) → Nat
  | [] => 0
  | d :: r => uptoBulk d + uptoBulkAll r
def uptoBulkEntries {H : Type} : List (Lit × DataW H) → Nat
  | [] => 0
  | x :: r => uptoBulkEntry x + uptoBulkEntries r
def uptoBulkEntry {H : Type} : Lit × DataW H → Nat
  | (.string bytes, d) => bytes.length + uptoBulk d + 1
  | (_, d) => uptoBulk d + 1
 end
def uptoSmall : (H : Type) → List (DataW H) → Bool := fun _ ds => decide (uptoBulkAll ds ≤ 1048576)
def OpenSpec.upto (s : _root_.Go.ChangeSpec) : _root_.Go.OpenSpec := { _root_.Go.OpenSpec.ofChange s with cond := some uptoSmall }

/-- 'meniscuslaw15.HitTells', WHERE WHAT IT READS IS OF BULK AT MOST 1048576: true; the input reads as it did. -/
def hitTellsUptoRow : OpenClaim := { program := "ytfhnddikghgbkaagreat", sum := "5df9f0e297c6680efa0124a3455889d2e42614e8b50a5f8a3416a729021c57ca", func := "meniscus/meniscuslaw15.HitTells", spec := "hitTells", unfollowed := true, recurses := true, apart := false, narrowed := true }
def HitTellsUptoSaid : Prop := hitTellsUptoRow.holds Tryz.pinned (OpenSpec.upto hitTellsSpec)

/-- 'meniscuslaw15.HitLess', WHERE WHAT IT READS IS OF BULK AT MOST 1048576: true; the input reads as it did. -/
def hitLessUptoRow : OpenClaim := { program := "ytfhnddikghgbkaagreat", sum := "5df9f0e297c6680efa0124a3455889d2e42614e8b50a5f8a3416a729021c57ca", func := "meniscus/meniscuslaw15.HitLess", spec := "hitLess", unfollowed := true, recurses := true, apart := false, narrowed := true }
def HitLessUptoSaid : Prop := hitLessUptoRow.holds Tryz.pinned (OpenSpec.upto hitLessSpec)

/-- 'meniscuslaw15.HitOn', WHERE WHAT IT READS IS OF BULK AT MOST 1048576: true; the input reads as it did. -/
def hitOnUptoRow : OpenClaim := { program := "ytfhnddikghgbkaagreat", sum := "5df9f0e297c6680efa0124a3455889d2e42614e8b50a5f8a3416a729021c57ca", func := "meniscus/meniscuslaw15.HitOn", spec := "hitOn", unfollowed := true, recurses := true, apart := false, narrowed := true }
def HitOnUptoSaid : Prop := hitOnUptoRow.holds Tryz.pinned (OpenSpec.upto hitOnSpec)

/-- 'meniscuslaw15.HitTurns', WHERE WHAT IT READS IS OF BULK AT MOST 1048576: true; the input reads as it did. -/
def hitTurnsUptoRow : OpenClaim := { program := "ytfhnddikghgbkaagreat", sum := "5df9f0e297c6680efa0124a3455889d2e42614e8b50a5f8a3416a729021c57ca", func := "meniscus/meniscuslaw15.HitTurns", spec := "hitTurns", unfollowed := true, recurses := true, apart := false, narrowed := true }
def HitTurnsUptoSaid : Prop := hitTurnsUptoRow.holds Tryz.pinned (OpenSpec.upto hitTurnsSpec)

/-- 'meniscuslaw15.HitMoves', WHERE WHAT IT READS IS OF BULK AT MOST 1048576: true; the input reads as it did. -/
def hitMovesUptoRow : OpenClaim := { program := "ytfhnddikghgbkaagreat", sum := "5df9f0e297c6680efa0124a3455889d2e42614e8b50a5f8a3416a729021c57ca", func := "meniscus/meniscuslaw15.HitMoves", spec := "hitMoves", unfollowed := true, recurses := true, apart := false, narrowed := true }
def HitMovesUptoSaid : Prop := hitMovesUptoRow.holds Tryz.pinned (OpenSpec.upto hitMovesSpec)

end Rows
end Go.Proofs.YtfhnddikghgbkaaGreat
