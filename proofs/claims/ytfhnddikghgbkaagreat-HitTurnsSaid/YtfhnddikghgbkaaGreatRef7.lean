/-
  The plain saying's sums of powers; the rows that the laws hand in.
-/
import Derived.Test.YtfhnddikghgbkaaGreatPoly
import Derived.Test.YtfhnddikghgbkaaGreatGc
import Derived.Test.YtfhnddikghgbkaaGreatGa
import Derived.Test.YtfhnddikghgbkaaGreatRefIv2
import Derived.Test.YtfhnddikghgbkaaGreatNewtonMath
namespace Go.Proofs.YtfhnddikghgbkaaGreat
set_option linter.unusedVariables false
open Go.ChangeShapes Go.WideShapes Go.ChangeAt Go.RowKit

abbrev Blk := Nat
end Go.Proofs.YtfhnddikghgbkaaGreat

