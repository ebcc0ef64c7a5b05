/-
  What is wrong with a token of a line of glasses; a glass made of tokens.
-/
import Derived.Test.YtfhnddikghgbkaaGlass
import Derived.Test.YtfhnddikghgbkaaGe
import Derived.Test.YtfhnddikghgbkaaRef8
import Derived.Test.YtfhnddikghgbkaaGd
import Derived.Test.YtfhnddikghgbkaaGa
import Derived.Deep.OwnRows
import Derived.Test.YtfhnddikghgbkaaGf
import Derived.Test.YtfhnddikghgbkaaDec

namespace Go.Proofs.Ytfhnddikghgbkaa
set_option linter.unusedVariables false
open Go.ChangeShapes Go.WideShapes Go.ChangeAt Go.RowKit

@[reducible] def tkV (t : Tk) : Value := .agg #[.int .i64 t.kind, .string (bsOf t.text), .complex .f64 (nw t.line) (nw t.col)]
end Go.Proofs.Ytfhnddikghgbkaa
