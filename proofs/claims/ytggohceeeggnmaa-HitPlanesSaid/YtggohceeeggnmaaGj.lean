/-
  Lenses, and what is read of a lens's tokens, one by one: plain lists.
-/
import Derived.Test.YtggohceeeggnmaaGg

namespace Go.Proofs.Ytggohceeeggnmaa
set_option linter.unusedVariables false
open Go.RowKit

structure Fc where
  stop : Bool
  radius : Dec
  aperture : Dec
  thick : Dec
  conic : Dec
  a4 : Dec
  a6 : Dec
  glass : List UInt8
structure Ln where
  name : List UInt8
  back : Dec
  faces : List Fc
/-! ### A lens's lines -/
/-! ### What is read -/
/-! ### Lenses that may be -/
/-! ### Token by token, of a lens's own lines -/
end Go.Proofs.Ytggohceeeggnmaa
