/-
  The contracts of what the statements of chapter 1 lean on: the plain saying of the chapter, and the numbers that are handed in.
-/
import Derived.Test.YthhipepdkpoomaaDoorNum
namespace Go.Proofs.YthhipepdkpoomaaDoor
set_option linter.unusedVariables false
open Go.ChangeShapes Go.WideShapes Go.ChangeAt Go.RowKit

end Go.Proofs.YthhipepdkpoomaaDoor

