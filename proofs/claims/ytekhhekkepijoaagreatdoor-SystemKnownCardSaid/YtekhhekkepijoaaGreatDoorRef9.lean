/-
  The contracts of the plain saying of chapter 9, the second part.
-/
import Derived.Test.YtekhhekkepijoaaGreatDoorRef8
namespace Go.Proofs.YtekhhekkepijoaaGreatDoor
set_option linter.unusedVariables false
open Go.ChangeShapes Go.WideShapes Go.ChangeAt Go.RowKit

abbrev U8 := Int
def isDz (n : Int) : Bool := decide (48 ≤ n) && decide (n ≤ 57)
theorem isDz_at (l : List UInt8) (k : Nat) : isDz (byteAt l k) = isD (l.getD k 0) := by
  unfold isDz isD byteAt
  congr 1 <;> (rw [decide_eq_decide]; omega)

end Go.Proofs.YtekhhekkepijoaaGreatDoor

