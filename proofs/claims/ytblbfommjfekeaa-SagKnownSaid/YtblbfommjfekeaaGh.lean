/-
  What is wrong with a token of a line of glasses; a glass made of tokens.
-/
import Derived.Test.YtblbfommjfekeaaGlass
import Derived.Test.YtblbfommjfekeaaGe
import Derived.Test.YtblbfommjfekeaaRef8
import Derived.Test.YtblbfommjfekeaaGd
import Derived.Test.YtblbfommjfekeaaGa
import Derived.Deep.OwnRows
import Derived.Test.YtblbfommjfekeaaGf
import Derived.Test.YtblbfommjfekeaaDec

namespace Go.Proofs.Ytblbfommjfekeaa
set_option linter.unusedVariables false
open Go.ChangeShapes Go.WideShapes Go.ChangeAt Go.RowKit

@[reducible] def tkV (t : Tk) : Value := .agg #[.int .i64 t.kind, .string (bsOf t.text), .complex .f64 (nw t.line) (nw t.col)]
end Go.Proofs.Ytblbfommjfekeaa
