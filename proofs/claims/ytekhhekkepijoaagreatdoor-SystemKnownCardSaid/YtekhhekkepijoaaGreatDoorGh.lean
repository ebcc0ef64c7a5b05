/-
  What is wrong with a token of a line of glasses; a glass made of tokens.
-/
import Derived.Test.YtekhhekkepijoaaGreatDoorGlass
import Derived.Test.YtekhhekkepijoaaGreatDoorGf
import Derived.Test.YtekhhekkepijoaaGreatDoorPrint

namespace Go.Proofs.YtekhhekkepijoaaGreatDoor
set_option linter.unusedVariables false
open Go.ChangeShapes Go.WideShapes Go.ChangeAt Go.RowKit

@[reducible] def tkV (t : Tk) : Value := .agg #[.int .i64 t.kind, .string (bsOf t.text), .complex .f64 (nw t.line) (nw t.col)]
end Go.Proofs.YtekhhekkepijoaaGreatDoor
