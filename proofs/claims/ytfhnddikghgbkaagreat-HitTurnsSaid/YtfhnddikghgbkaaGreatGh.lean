/-
  What is wrong with a token of a line of glasses; a glass made of tokens.
-/
import Derived.Test.YtfhnddikghgbkaaGreatGlass
import Derived.Test.YtfhnddikghgbkaaGreatGe
import Derived.Test.YtfhnddikghgbkaaGreatGa
import Derived.Test.YtfhnddikghgbkaaGreatGd
import Derived.Deep.OwnRows
import Derived.Test.YtfhnddikghgbkaaGreatGf
import Derived.Test.YtfhnddikghgbkaaGreatDec

namespace Go.Proofs.YtfhnddikghgbkaaGreat
set_option linter.unusedVariables false
open Go.ChangeShapes Go.WideShapes Go.ChangeAt Go.RowKit

@[reducible] def tkV (t : Tk) : Value := .agg #[.int .i64 t.kind, .string (bsOf t.text), .complex .f64 (nw t.line) (nw t.col)]
end Go.Proofs.YtfhnddikghgbkaaGreat
