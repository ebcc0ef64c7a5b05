/-
  The contracts of the plain saying of chapter 2: each call answers what the plain interval of the same name is.
-/
import Derived.Test.YthhipepdkpoomaaDoorRef
import Derived.Test.YthhipepdkpoomaaDoorReg3
import Derived.Test.YthhipepdkpoomaaDoorIvMath
namespace Go.Proofs.YthhipepdkpoomaaDoor
set_option linter.unusedVariables false
open Go.ChangeShapes Go.WideShapes Go.ChangeAt Go.RowKit

end Go.Proofs.YthhipepdkpoomaaDoor

