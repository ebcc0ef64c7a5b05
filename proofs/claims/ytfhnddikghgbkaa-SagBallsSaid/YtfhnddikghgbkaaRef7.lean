/-
  The plain saying's sums of powers; the rows that the laws hand in.
-/
import Derived.Test.YtfhnddikghgbkaaPoly
import Derived.Test.YtfhnddikghgbkaaGc
import Derived.Test.YtfhnddikghgbkaaGa
import Derived.Test.YtfhnddikghgbkaaGb
import Derived.Test.YtfhnddikghgbkaaNewtonMath
namespace Go.Proofs.Ytfhnddikghgbkaa
set_option linter.unusedVariables false
open Go.ChangeShapes Go.WideShapes Go.ChangeAt Go.RowKit

abbrev Blk := Nat
end Go.Proofs.Ytfhnddikghgbkaa

