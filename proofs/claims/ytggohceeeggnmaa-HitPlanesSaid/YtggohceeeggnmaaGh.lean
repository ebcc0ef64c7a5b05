/-
  What is wrong with a token of a line of glasses; a glass made of tokens.
-/
import Derived.Test.YtggohceeeggnmaaGlass
import Derived.Test.YtggohceeeggnmaaGe
import Derived.Test.YtggohceeeggnmaaRef8
import Derived.Test.YtggohceeeggnmaaGd
import Derived.Test.YtggohceeeggnmaaGa
import Derived.Deep.OwnRows
import Derived.Test.YtggohceeeggnmaaGf
import Derived.Test.YtggohceeeggnmaaGz5

namespace Go.Proofs.Ytggohceeeggnmaa
set_option linter.unusedVariables false
open Go.ChangeShapes Go.WideShapes Go.ChangeAt Go.RowKit

@[reducible] def tkV (t : Tk) : Value := .agg #[.int .i64 t.kind, .string (bsOf t.text), .complex .f64 (nw t.line) (nw t.col)]
end Go.Proofs.Ytggohceeeggnmaa
