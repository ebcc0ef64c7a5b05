/-
  The text of glasses as it is printed, and the tokens that are read from it: plain lists.
-/
import Derived.Test.YtggohceeeggnmaaGd

namespace Go.Proofs.Ytggohceeeggnmaa
set_option linter.unusedVariables false
open Go.RowKit

/-! ### A line of words and numbers, a blank between -/
/-! ### A number as it is printed -/
/-! ### Glasses -/
structure Gl where
  name : List UInt8
  b0 : Dec
  b1 : Dec
  b2 : Dec
  c0 : Dec
  c1 : Dec
  c2 : Dec
end Go.Proofs.Ytggohceeeggnmaa
