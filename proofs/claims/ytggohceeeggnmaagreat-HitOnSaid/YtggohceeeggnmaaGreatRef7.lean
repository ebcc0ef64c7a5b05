/-
  The plain saying's sums of powers; the rows that the laws hand in.
-/
import Derived.Test.YtggohceeeggnmaaGreatPoly
import Derived.Test.YtggohceeeggnmaaGreatGc
import Derived.Test.YtggohceeeggnmaaGreatGa
import Derived.Test.YtggohceeeggnmaaGreatRefIv2
import Derived.Test.YtggohceeeggnmaaGreatNewtonMath
namespace Go.Proofs.YtggohceeeggnmaaGreat
set_option linter.unusedVariables false
open Go.ChangeShapes Go.WideShapes Go.ChangeAt Go.RowKit

abbrev Blk := Nat
end Go.Proofs.YtggohceeeggnmaaGreat

