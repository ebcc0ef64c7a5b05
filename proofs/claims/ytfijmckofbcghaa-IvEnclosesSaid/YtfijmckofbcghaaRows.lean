/-
  No cell of these rows narrows 'for every input' (looked for: loops, veiled, ifaces, maps, wideKeys, modest, calm, conditions, laid).
  DERIVED. THE GIVEN ROWS OF THIS SEAT. 7 by the template 'for every input the law returns true; each argument reads behind the call as it read before'; 0 by the template 'total and deterministic' (their statements: YtfijmckofbcghaaTotals.lean).
  GIVEN WITH THE SEED: the statements are not yours to turn. If you find one false, say at which input.
  Laid BY PROGRAM, IN A SANDBOX (cutbox-rows.mjs): the forced cells as the released guide's own fill.sh prints them over the translation 582cbfd53ce20423… (all of the seat's roots in one cut). By AI agents, Wed Nov 11 2026. No macro, syntax, notation, axiom, sorry.
-/
import Derived.Test.YtfijmckofbcghaaChecked
import GoSem.Claim
import GoSem.ClaimJoined
import GoSem.ClaimMapViews
import Derived.JoinedTies
import Derived.KernelRfl
namespace Go.Proofs.Ytfijmckofbcghaa
/- THE CELL 'sum', in the pinned program and in every row, IS THE sha256 OF THE DUMP (.gsa) THAT YtfijmckofbcghaaProg.lean LOADS. Nothing in Lean hashes anything: it is a label: what it is worth is what the hold of that sum in a sandbox is worth. -/
noncomputable def Try.pinned : Pinned := { name := "ytfijmckofbcghaa", sum := "582cbfd53ce20423ceda7d965e5b4fc07c4faa047faed6eba08911fd5f7cd386", checked := Try.checked }
namespace Rows
def none {H : Type} : Left H := { results := [], args := [] }

/-- 'meniscuslaw2.IvKnown': WHATEVER THE INPUT: true; the input reads as it did. -/
def ivKnownSpec : ChangeSpec := { name := "ivKnown", fn := fun _ => fun
  | [] => { results := [.lit (.bool true)], args := [] }
  | _ => none }
def ivKnownRow : OpenClaim := { program := "ytfijmckofbcghaa", sum := "582cbfd53ce20423ceda7d965e5b4fc07c4faa047faed6eba08911fd5f7cd386", func := "meniscus/meniscuslaw2.IvKnown", spec := "ivKnown", apart := false }
def IvKnownSaid : Prop := ivKnownRow.holds Try.pinned (OpenSpec.ofChange ivKnownSpec)

/-- ITS FALSE NEIGHBOUR: 'it returns false'. Refute it at one input. -/
def ivKnownWrong : ChangeSpec := { name := "ivKnown", fn := fun _ => fun
  | [] => { results := [.lit (.bool false)], args := [] }
  | _ => none }
def IvKnownWrongFalsely : Prop := ivKnownRow.holds Try.pinned (OpenSpec.ofChange ivKnownWrong)

/-- 'meniscuslaw2.IvTells': WHATEVER THE INPUT: true; the input reads as it did. -/
def ivTellsSpec : ChangeSpec := { name := "ivTells", fn := fun _ => fun
  | [d1, d2, d3, d4, d5, d6] => { results := [.lit (.bool true)], args := [d1, d2, d3, d4, d5, d6] }
  | _ => none }
def ivTellsRow : OpenClaim := { program := "ytfijmckofbcghaa", sum := "582cbfd53ce20423ceda7d965e5b4fc07c4faa047faed6eba08911fd5f7cd386", func := "meniscus/meniscuslaw2.IvTells", spec := "ivTells", apart := false }
def IvTellsSaid : Prop := ivTellsRow.holds Try.pinned (OpenSpec.ofChange ivTellsSpec)

/-- ITS FALSE NEIGHBOUR: 'it returns false'. Refute it at one input. -/
def ivTellsWrong : ChangeSpec := { name := "ivTells", fn := fun _ => fun
  | [d1, d2, d3, d4, d5, d6] => { results := [.lit (.bool false)], args := [d1, d2, d3, d4, d5, d6] }
  | _ => none }
def IvTellsWrongFalsely : Prop := ivTellsRow.holds Try.pinned (OpenSpec.ofChange ivTellsWrong)

/-- 'meniscuslaw2.IvEncloses': WHATEVER THE INPUT: true; the input reads as it did. -/
def ivEnclosesSpec : ChangeSpec := { name := "ivEncloses", fn := fun _ => fun
  | [d1, d2, d3, d4, d5, d6] => { results := [.lit (.bool true)], args := [d1, d2, d3, d4, d5, d6] }
  | _ => none }
def ivEnclosesRow : OpenClaim := { program := "ytfijmckofbcghaa", sum := "582cbfd53ce20423ceda7d965e5b4fc07c4faa047faed6eba08911fd5f7cd386", func := "meniscus/meniscuslaw2.IvEncloses", spec := "ivEncloses", apart := false }
def IvEnclosesSaid : Prop := ivEnclosesRow.holds Try.pinned (OpenSpec.ofChange ivEnclosesSpec)

/-- ITS FALSE NEIGHBOUR: 'it returns false'. Refute it at one input. -/
def ivEnclosesWrong : ChangeSpec := { name := "ivEncloses", fn := fun _ => fun
  | [d1, d2, d3, d4, d5, d6] => { results := [.lit (.bool false)], args := [d1, d2, d3, d4, d5, d6] }
  | _ => none }
def IvEnclosesWrongFalsely : Prop := ivEnclosesRow.holds Try.pinned (OpenSpec.ofChange ivEnclosesWrong)

/-- 'meniscuslaw2.IvLess': WHATEVER THE INPUT: true; the input reads as it did. -/
def ivLessSpec : ChangeSpec := { name := "ivLess", fn := fun _ => fun
  | [d1, d2, d3, d4, d5, d6, d7] => { results := [.lit (.bool true)], args := [d1, d2, d3, d4, d5, d6, d7] }
  | _ => none }
def ivLessRow : OpenClaim := { program := "ytfijmckofbcghaa", sum := "582cbfd53ce20423ceda7d965e5b4fc07c4faa047faed6eba08911fd5f7cd386", func := "meniscus/meniscuslaw2.IvLess", spec := "ivLess", apart := false }
def IvLessSaid : Prop := ivLessRow.holds Try.pinned (OpenSpec.ofChange ivLessSpec)

/-- ITS FALSE NEIGHBOUR: 'it returns false'. Refute it at one input. -/
def ivLessWrong : ChangeSpec := { name := "ivLess", fn := fun _ => fun
  | [d1, d2, d3, d4, d5, d6, d7] => { results := [.lit (.bool false)], args := [d1, d2, d3, d4, d5, d6, d7] }
  | _ => none }
def IvLessWrongFalsely : Prop := ivLessRow.holds Try.pinned (OpenSpec.ofChange ivLessWrong)

/-- 'meniscuslaw2.IvParts': WHATEVER THE INPUT: true; the input reads as it did. -/
def ivPartsSpec : ChangeSpec := { name := "ivParts", fn := fun _ => fun
  | [d1, d2, d3, d4] => { results := [.lit (.bool true)], args := [d1, d2, d3, d4] }
  | _ => none }
def ivPartsRow : OpenClaim := { program := "ytfijmckofbcghaa", sum := "582cbfd53ce20423ceda7d965e5b4fc07c4faa047faed6eba08911fd5f7cd386", func := "meniscus/meniscuslaw2.IvParts", spec := "ivParts", apart := false }
def IvPartsSaid : Prop := ivPartsRow.holds Try.pinned (OpenSpec.ofChange ivPartsSpec)

/-- ITS FALSE NEIGHBOUR: 'it returns false'. Refute it at one input. -/
def ivPartsWrong : ChangeSpec := { name := "ivParts", fn := fun _ => fun
  | [d1, d2, d3, d4] => { results := [.lit (.bool false)], args := [d1, d2, d3, d4] }
  | _ => none }
def IvPartsWrongFalsely : Prop := ivPartsRow.holds Try.pinned (OpenSpec.ofChange ivPartsWrong)

/-- 'meniscuslaw2.IvBacks': WHATEVER THE INPUT: true; the input reads as it did. -/
def ivBacksSpec : ChangeSpec := { name := "ivBacks", fn := fun _ => fun
  | [d1, d2, d3, d4] => { results := [.lit (.bool true)], args := [d1, d2, d3, d4] }
  | _ => none }
def ivBacksRow : OpenClaim := { program := "ytfijmckofbcghaa", sum := "582cbfd53ce20423ceda7d965e5b4fc07c4faa047faed6eba08911fd5f7cd386", func := "meniscus/meniscuslaw2.IvBacks", spec := "ivBacks", apart := false }
def IvBacksSaid : Prop := ivBacksRow.holds Try.pinned (OpenSpec.ofChange ivBacksSpec)

/-- ITS FALSE NEIGHBOUR: 'it returns false'. Refute it at one input. -/
def ivBacksWrong : ChangeSpec := { name := "ivBacks", fn := fun _ => fun
  | [d1, d2, d3, d4] => { results := [.lit (.bool false)], args := [d1, d2, d3, d4] }
  | _ => none }
def IvBacksWrongFalsely : Prop := ivBacksRow.holds Try.pinned (OpenSpec.ofChange ivBacksWrong)

/-- 'meniscuslaw2.IvBounds': WHATEVER THE INPUT: true; the input reads as it did. -/
def ivBoundsSpec : ChangeSpec := { name := "ivBounds", fn := fun _ => fun
  | [d1, d2, d3, d4, d5] => { results := [.lit (.bool true)], args := [d1, d2, d3, d4, d5] }
  | _ => none }
def ivBoundsRow : OpenClaim := { program := "ytfijmckofbcghaa", sum := "582cbfd53ce20423ceda7d965e5b4fc07c4faa047faed6eba08911fd5f7cd386", func := "meniscus/meniscuslaw2.IvBounds", spec := "ivBounds", apart := false }
def IvBoundsSaid : Prop := ivBoundsRow.holds Try.pinned (OpenSpec.ofChange ivBoundsSpec)

/-- ITS FALSE NEIGHBOUR: 'it returns false'. Refute it at one input. -/
def ivBoundsWrong : ChangeSpec := { name := "ivBounds", fn := fun _ => fun
  | [d1, d2, d3, d4, d5] => { results := [.lit (.bool false)], args := [d1, d2, d3, d4, d5] }
  | _ => none }
def IvBoundsWrongFalsely : Prop := ivBoundsRow.holds Try.pinned (OpenSpec.ofChange ivBoundsWrong)

/- THE SECOND FORM. 'bulk': how many values and letters a reading holds, each counted each time it is reached (what is shared counts as often as it is met; a slice's spare places count too). A statement '..UptoSaid' is the law's where the arguments, and the package variables that the reading takes, are together of bulk at most 1048576: NARROWER than '..Said'. Prove '..Said' where nothing that the law and all that it calls make is longer than what came in: it says more and counts as full. Else prove '..UptoSaid'. A law counts once. -/
mutual
def uptoBulk {H : Type} : DataW H → Nat
  | .lit (.string bytes) => bytes.length + 1
  | .lit _ => 1
  | .nil => 1
  | .ptr d => uptoBulk d + 1
  | .slice elems spare => uptoBulkAll elems + uptoBulkAll spare + 1
  | .agg parts => uptoBulkAll parts + 1
  | .iface _ d => uptoBulk d + 1
  | .map entries => uptoBulkEntries entries + 1
  | .held _ => 1
def uptoBulkAll {H : Type} : List (DataW H) → Nat
  | [] => 0
  | d :: r => uptoBulk d + uptoBulkAll r
def uptoBulkEntries {H : Type} : List (Lit × DataW H) → Nat
  | [] => 0
  | x :: r => uptoBulkEntry x + uptoBulkEntries r
def uptoBulkEntry {H : Type} : Lit × DataW H → Nat
  | (.string bytes, d) => bytes.length + uptoBulk d + 1
  | (_, d) => uptoBulk d + 1
 end
def uptoSmall : (H : Type) → List (DataW H) → Bool := fun _ ds => decide (uptoBulkAll ds ≤ 1048576)
def OpenSpec.upto (s : _root_.Go.ChangeSpec) : _root_.Go.OpenSpec := { _root_.Go.OpenSpec.ofChange s with cond := some uptoSmall }

/-- 'meniscuslaw2.IvKnown', WHERE WHAT IT READS IS OF BULK AT MOST 1048576: true; the input reads as it did. -/
def ivKnownUptoRow : OpenClaim := { program := "ytfijmckofbcghaa", sum := "582cbfd53ce20423ceda7d965e5b4fc07c4faa047faed6eba08911fd5f7cd386", func := "meniscus/meniscuslaw2.IvKnown", spec := "ivKnown", apart := false, narrowed := true }
def IvKnownUptoSaid : Prop := ivKnownUptoRow.holds Try.pinned (OpenSpec.upto ivKnownSpec)

/-- 'meniscuslaw2.IvTells', WHERE WHAT IT READS IS OF BULK AT MOST 1048576: true; the input reads as it did. -/
def ivTellsUptoRow : OpenClaim := { program := "ytfijmckofbcghaa", sum := "582cbfd53ce20423ceda7d965e5b4fc07c4faa047faed6eba08911fd5f7cd386", func := "meniscus/meniscuslaw2.IvTells", spec := "ivTells", apart := false, narrowed := true }
def IvTellsUptoSaid : Prop := ivTellsUptoRow.holds Try.pinned (OpenSpec.upto ivTellsSpec)

/-- 'meniscuslaw2.IvEncloses', WHERE WHAT IT READS IS OF BULK AT MOST 1048576: true; the input reads as it did. -/
def ivEnclosesUptoRow : OpenClaim := { program := "ytfijmckofbcghaa", sum := "582cbfd53ce20423ceda7d965e5b4fc07c4faa047faed6eba08911fd5f7cd386", func := "meniscus/meniscuslaw2.IvEncloses", spec := "ivEncloses", apart := false, narrowed := true }
def IvEnclosesUptoSaid : Prop := ivEnclosesUptoRow.holds Try.pinned (OpenSpec.upto ivEnclosesSpec)

/-- 'meniscuslaw2.IvLess', WHERE WHAT IT READS IS OF BULK AT MOST 1048576: true; the input reads as it did. -/
def ivLessUptoRow : OpenClaim := { program := "ytfijmckofbcghaa", sum := "582cbfd53ce20423ceda7d965e5b4fc07c4faa047faed6eba08911fd5f7cd386", func := "meniscus/meniscuslaw2.IvLess", spec := "ivLess", apart := false, narrowed := true }
def IvLessUptoSaid : Prop := ivLessUptoRow.holds Try.pinned (OpenSpec.upto ivLessSpec)

/-- 'meniscuslaw2.IvParts', WHERE WHAT IT READS IS OF BULK AT MOST 1048576: true; the input reads as it did. -/
def ivPartsUptoRow : OpenClaim := { program := "ytfijmckofbcghaa", sum := "582cbfd53ce20423ceda7d965e5b4fc07c4faa047faed6eba08911fd5f7cd386", func := "meniscus/meniscuslaw2.IvParts", spec := "ivParts", apart := false, narrowed := true }
def IvPartsUptoSaid : Prop := ivPartsUptoRow.holds Try.pinned (OpenSpec.upto ivPartsSpec)

/-- 'meniscuslaw2.IvBacks', WHERE WHAT IT READS IS OF BULK AT MOST 1048576: true; the input reads as it did. -/
def ivBacksUptoRow : OpenClaim := { program := "ytfijmckofbcghaa", sum := "582cbfd53ce20423ceda7d965e5b4fc07c4faa047faed6eba08911fd5f7cd386", func := "meniscus/meniscuslaw2.IvBacks", spec := "ivBacks", apart := false, narrowed := true }
def IvBacksUptoSaid : Prop := ivBacksUptoRow.holds Try.pinned (OpenSpec.upto ivBacksSpec)

/-- 'meniscuslaw2.IvBounds', WHERE WHAT IT READS IS OF BULK AT MOST 1048576: true; the input reads as it did. -/
def ivBoundsUptoRow : OpenClaim := { program := "ytfijmckofbcghaa", sum := "582cbfd53ce20423ceda7d965e5b4fc07c4faa047faed6eba08911fd5f7cd386", func := "meniscus/meniscuslaw2.IvBounds", spec := "ivBounds", apart := false, narrowed := true }
def IvBoundsUptoSaid : Prop := ivBoundsUptoRow.holds Try.pinned (OpenSpec.upto ivBoundsSpec)

end Rows
end Go.Proofs.Ytfijmckofbcghaa
