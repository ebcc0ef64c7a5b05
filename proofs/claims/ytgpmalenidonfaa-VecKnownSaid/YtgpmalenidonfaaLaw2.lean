/-
  Chapter 2's example, and what the statements of chapter 2 ask of less.
-/
import Derived.Test.YtgpmalenidonfaaIv
import Derived.Test.YtgpmalenidonfaaIvDiv
import Derived.Test.YtgpmalenidonfaaHandIv
import Derived.Test.YtgpmalenidonfaaReg2
namespace Go.Proofs.Ytgpmalenidonfaa
set_option linter.unusedVariables false
open Go.ChangeShapes Go.WideShapes Go.ChangeAt Go.RowKit

end Go.Proofs.Ytgpmalenidonfaa

