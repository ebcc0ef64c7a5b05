/-
  No cell of these rows narrows 'for every input' (looked for: loops, veiled, ifaces, maps, wideKeys, modest, calm, conditions, laid).
  DERIVED. THE GIVEN ROWS OF THIS SEAT. 5 by the template 'for every input the law returns true; each argument reads behind the call as it read before'; 0 by the template 'total and deterministic' (their statements: YtekhhekkepijoaaTotals.lean).
  GIVEN WITH THE SEED: the statements are not yours to turn. If you find one false, say at which input.
  Laid BY PROGRAM, IN A SANDBOX (cutbox-rows.mjs): the forced cells as the released guide's own fill.sh prints them over the translation 2b2c70a9767282e3… (all of the seat's roots in one cut). By AI agents, Wed Nov 11 2026. No macro, syntax, notation, axiom, sorry.
-/
import Derived.Test.YtekhhekkepijoaaChecked
import GoSem.Claim
import GoSem.ClaimJoined
import GoSem.ClaimMapViews
import Derived.JoinedTies
import Derived.KernelRfl
namespace Go.Proofs.Ytekhhekkepijoaa
/- THE CELL 'sum', in the pinned program and in every row, IS THE sha256 OF THE DUMP (.gsa) THAT YtekhhekkepijoaaProg.lean LOADS. Nothing in Lean hashes anything: it is a label: what it is worth is what the hold of that sum in a sandbox is worth. -/
noncomputable def Try.pinned : Pinned := { name := "ytekhhekkepijoaa", sum := "2b2c70a9767282e3bff2018ce7b98097e325bea80e8cb9cd94b4695cb767b6d8", checked := Try.checked }
namespace Rows
def none {H : Type} : Left H := { results := [], args := [] }

/-- 'meniscuslaw17.SnellKnown': WHATEVER THE INPUT: true; the input reads as it did. -/
def snellKnownSpec : ChangeSpec := { name := "snellKnown", fn := fun _ => fun
  | [] => { results := [.lit (.bool true)], args := [] }
  | _ => none }
def snellKnownRow : OpenClaim := { program := "ytekhhekkepijoaa", sum := "2b2c70a9767282e3bff2018ce7b98097e325bea80e8cb9cd94b4695cb767b6d8", func := "meniscus/meniscuslaw17.SnellKnown", spec := "snellKnown", apart := false }
def SnellKnownSaid : Prop := snellKnownRow.holds Try.pinned (OpenSpec.ofChange snellKnownSpec)

/-- ITS FALSE NEIGHBOUR: 'it returns false'. Refute it at one input. -/
def snellKnownWrong : ChangeSpec := { name := "snellKnown", fn := fun _ => fun
  | [] => { results := [.lit (.bool false)], args := [] }
  | _ => none }
def SnellKnownWrongFalsely : Prop := snellKnownRow.holds Try.pinned (OpenSpec.ofChange snellKnownWrong)

/-- 'meniscuslaw17.SnellTells': WHATEVER THE INPUT: true; the input reads as it did. -/
def snellTellsSpec : ChangeSpec := { name := "snellTells", fn := fun _ => fun
  | [d1, d2, d3, d4, d5, d6, d7, d8, d9, d10] => { results := [.lit (.bool true)], args := [d1, d2, d3, d4, d5, d6, d7, d8, d9, d10] }
  | _ => none }
def snellTellsRow : OpenClaim := { program := "ytekhhekkepijoaa", sum := "2b2c70a9767282e3bff2018ce7b98097e325bea80e8cb9cd94b4695cb767b6d8", func := "meniscus/meniscuslaw17.SnellTells", spec := "snellTells", apart := false }
def SnellTellsSaid : Prop := snellTellsRow.holds Try.pinned (OpenSpec.ofChange snellTellsSpec)

/-- ITS FALSE NEIGHBOUR: 'it returns false'. Refute it at one input. -/
def snellTellsWrong : ChangeSpec := { name := "snellTells", fn := fun _ => fun
  | [d1, d2, d3, d4, d5, d6, d7, d8, d9, d10] => { results := [.lit (.bool false)], args := [d1, d2, d3, d4, d5, d6, d7, d8, d9, d10] }
  | _ => none }
def SnellTellsWrongFalsely : Prop := snellTellsRow.holds Try.pinned (OpenSpec.ofChange snellTellsWrong)

/-- 'meniscuslaw17.SnellLess': WHATEVER THE INPUT: true; the input reads as it did. -/
def snellLessSpec : ChangeSpec := { name := "snellLess", fn := fun _ => fun
  | [d1, d2, d3, d4, d5, d6, d7, d8, d9, d10, d11] => { results := [.lit (.bool true)], args := [d1, d2, d3, d4, d5, d6, d7, d8, d9, d10, d11] }
  | _ => none }
def snellLessRow : OpenClaim := { program := "ytekhhekkepijoaa", sum := "2b2c70a9767282e3bff2018ce7b98097e325bea80e8cb9cd94b4695cb767b6d8", func := "meniscus/meniscuslaw17.SnellLess", spec := "snellLess", apart := false }
def SnellLessSaid : Prop := snellLessRow.holds Try.pinned (OpenSpec.ofChange snellLessSpec)

/-- ITS FALSE NEIGHBOUR: 'it returns false'. Refute it at one input. -/
def snellLessWrong : ChangeSpec := { name := "snellLess", fn := fun _ => fun
  | [d1, d2, d3, d4, d5, d6, d7, d8, d9, d10, d11] => { results := [.lit (.bool false)], args := [d1, d2, d3, d4, d5, d6, d7, d8, d9, d10, d11] }
  | _ => none }
def SnellLessWrongFalsely : Prop := snellLessRow.holds Try.pinned (OpenSpec.ofChange snellLessWrong)

/-- 'meniscuslaw17.SnellKeeps': WHATEVER THE INPUT: true; the input reads as it did. -/
def snellKeepsSpec : ChangeSpec := { name := "snellKeeps", fn := fun _ => fun
  | [d1, d2, d3] => { results := [.lit (.bool true)], args := [d1, d2, d3] }
  | _ => none }
def snellKeepsRow : OpenClaim := { program := "ytekhhekkepijoaa", sum := "2b2c70a9767282e3bff2018ce7b98097e325bea80e8cb9cd94b4695cb767b6d8", func := "meniscus/meniscuslaw17.SnellKeeps", spec := "snellKeeps", apart := false }
def SnellKeepsSaid : Prop := snellKeepsRow.holds Try.pinned (OpenSpec.ofChange snellKeepsSpec)

/-- ITS FALSE NEIGHBOUR: 'it returns false'. Refute it at one input. -/
def snellKeepsWrong : ChangeSpec := { name := "snellKeeps", fn := fun _ => fun
  | [d1, d2, d3] => { results := [.lit (.bool false)], args := [d1, d2, d3] }
  | _ => none }
def SnellKeepsWrongFalsely : Prop := snellKeepsRow.holds Try.pinned (OpenSpec.ofChange snellKeepsWrong)

/-- 'meniscuslaw17.SnellBacks': WHATEVER THE INPUT: true; the input reads as it did. -/
def snellBacksSpec : ChangeSpec := { name := "snellBacks", fn := fun _ => fun
  | [d1, d2, d3, d4] => { results := [.lit (.bool true)], args := [d1, d2, d3, d4] }
  | _ => none }
def snellBacksRow : OpenClaim := { program := "ytekhhekkepijoaa", sum := "2b2c70a9767282e3bff2018ce7b98097e325bea80e8cb9cd94b4695cb767b6d8", func := "meniscus/meniscuslaw17.SnellBacks", spec := "snellBacks", apart := false }
def SnellBacksSaid : Prop := snellBacksRow.holds Try.pinned (OpenSpec.ofChange snellBacksSpec)

/-- ITS FALSE NEIGHBOUR: 'it returns false'. Refute it at one input. -/
def snellBacksWrong : ChangeSpec := { name := "snellBacks", fn := fun _ => fun
  | [d1, d2, d3, d4] => { results := [.lit (.bool false)], args := [d1, d2, d3, d4] }
  | _ => none }
def SnellBacksWrongFalsely : Prop := snellBacksRow.holds Try.pinned (OpenSpec.ofChange snellBacksWrong)

/- THE SECOND FORM. 'bulk': how many values and letters a reading holds, each counted each time it is reached (what is shared counts as often as it is met; a slice's spare places count too). A statement '..UptoSaid' is the law's where the arguments, and the package variables that the reading takes, are together of bulk at most 1048576: NARROWER than '..Said'. Prove '..Said' where nothing that the law and all that it calls make is longer than what came in: it says more and counts as full. Else prove '..UptoSaid'. A law counts once. -/
mutual
def uptoBulk {H : Type} : DataW H → Nat
  | .lit (.string bytes) => bytes.length + 1
  | .lit _ => 1
  | .nil => 1
  | .ptr d => uptoBulk d + 1
  | .slice elems spare => uptoBulkAll elems + uptoBulkAll spare + 1
  | .agg parts => uptoBulkAll parts + 1
  | .iface _ d => uptoBulk d + 1
  | .map entries => uptoBulkEntries entries + 1
  | .held _ => 1
def uptoBulkAll {H : Type} : List (DataW H) → Nat
  | [] => 0
  | d :: r => uptoBulk d + uptoBulkAll r
def uptoBulkEntries {H : Type} : List (Lit × DataW H) → Nat
  | [] => 0
  | x :: r => uptoBulkEntry x + uptoBulkEntries r
def uptoBulkEntry {H : Type} : Lit × DataW H → Nat
  | (.string bytes, d) => bytes.length + uptoBulk d + 1
  | (_, d) => uptoBulk d + 1
 end
def uptoSmall : (H : Type) → List (DataW H) → Bool := fun _ ds => decide (uptoBulkAll ds ≤ 1048576)
def OpenSpec.upto (s : _root_.Go.ChangeSpec) : _root_.Go.OpenSpec := { _root_.Go.OpenSpec.ofChange s with cond := some uptoSmall }

/-- 'meniscuslaw17.SnellKnown', WHERE WHAT IT READS IS OF BULK AT MOST 1048576: true; the input reads as it did. -/
def snellKnownUptoRow : OpenClaim := { program := "ytekhhekkepijoaa", sum := "2b2c70a9767282e3bff2018ce7b98097e325bea80e8cb9cd94b4695cb767b6d8", func := "meniscus/meniscuslaw17.SnellKnown", spec := "snellKnown", apart := false, narrowed := true }
def SnellKnownUptoSaid : Prop := snellKnownUptoRow.holds Try.pinned (OpenSpec.upto snellKnownSpec)

/-- 'meniscuslaw17.SnellTells', WHERE WHAT IT READS IS OF BULK AT MOST 1048576: true; the input reads as it did. -/
def snellTellsUptoRow : OpenClaim := { program := "ytekhhekkepijoaa", sum := "2b2c70a9767282e3bff2018ce7b98097e325bea80e8cb9cd94b4695cb767b6d8", func := "meniscus/meniscuslaw17.SnellTells", spec := "snellTells", apart := false, narrowed := true }
def SnellTellsUptoSaid : Prop := snellTellsUptoRow.holds Try.pinned (OpenSpec.upto snellTellsSpec)

/-- 'meniscuslaw17.SnellLess', WHERE WHAT IT READS IS OF BULK AT MOST 1048576: true; the input reads as it did. -/
def snellLessUptoRow : OpenClaim := { program := "ytekhhekkepijoaa", sum := "2b2c70a9767282e3bff2018ce7b98097e325bea80e8cb9cd94b4695cb767b6d8", func := "meniscus/meniscuslaw17.SnellLess", spec := "snellLess", apart := false, narrowed := true }
def SnellLessUptoSaid : Prop := snellLessUptoRow.holds Try.pinned (OpenSpec.upto snellLessSpec)

/-- 'meniscuslaw17.SnellKeeps', WHERE WHAT IT READS IS OF BULK AT MOST 1048576: true; the input reads as it did. -/
def snellKeepsUptoRow : OpenClaim := { program := "ytekhhekkepijoaa", sum := "2b2c70a9767282e3bff2018ce7b98097e325bea80e8cb9cd94b4695cb767b6d8", func := "meniscus/meniscuslaw17.SnellKeeps", spec := "snellKeeps", apart := false, narrowed := true }
def SnellKeepsUptoSaid : Prop := snellKeepsUptoRow.holds Try.pinned (OpenSpec.upto snellKeepsSpec)

/-- 'meniscuslaw17.SnellBacks', WHERE WHAT IT READS IS OF BULK AT MOST 1048576: true; the input reads as it did. -/
def snellBacksUptoRow : OpenClaim := { program := "ytekhhekkepijoaa", sum := "2b2c70a9767282e3bff2018ce7b98097e325bea80e8cb9cd94b4695cb767b6d8", func := "meniscus/meniscuslaw17.SnellBacks", spec := "snellBacks", apart := false, narrowed := true }
def SnellBacksUptoSaid : Prop := snellBacksUptoRow.holds Try.pinned (OpenSpec.upto snellBacksSpec)

end Rows
end Go.Proofs.Ytekhhekkepijoaa
