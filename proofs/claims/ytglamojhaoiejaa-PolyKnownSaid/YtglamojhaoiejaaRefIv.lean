/-
  The contracts of the plain saying of chapter 2: each call answers what the plain interval of the same name is.
-/
import Derived.Test.YtglamojhaoiejaaRef
import Derived.Test.YtglamojhaoiejaaReg3
import Derived.Test.YtglamojhaoiejaaIvMath
namespace Go.Proofs.Ytglamojhaoiejaa
set_option linter.unusedVariables false
open Go.ChangeShapes Go.WideShapes Go.ChangeAt Go.RowKit

end Go.Proofs.Ytglamojhaoiejaa

