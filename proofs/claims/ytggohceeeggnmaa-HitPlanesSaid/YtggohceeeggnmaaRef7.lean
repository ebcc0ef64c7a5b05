/-
  The plain saying's sums of powers; the rows that the laws hand in.
-/
import Derived.Test.YtggohceeeggnmaaPoly
import Derived.Test.YtggohceeeggnmaaGc
import Derived.Test.YtggohceeeggnmaaGa
import Derived.Test.YtggohceeeggnmaaGb
import Derived.Test.YtggohceeeggnmaaGy5
namespace Go.Proofs.Ytggohceeeggnmaa
set_option linter.unusedVariables false
open Go.ChangeShapes Go.WideShapes Go.ChangeAt Go.RowKit

abbrev Blk := Nat
end Go.Proofs.Ytggohceeeggnmaa

