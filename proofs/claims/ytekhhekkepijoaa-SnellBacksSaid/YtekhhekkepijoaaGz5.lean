/-
  The contracts of package dec: each call answers what the plain decimals of chapter 9 say.
-/
import Derived.Test.YtekhhekkepijoaaGa
import Derived.Test.YtekhhekkepijoaaGd
import Derived.Test.YtekhhekkepijoaaGc

namespace Go.Proofs.Ytekhhekkepijoaa
set_option linter.unusedVariables false
open Go.ChangeShapes Go.WideShapes Go.ChangeAt Go.RowKit

/-- Ten to the n. -/
def p10 (n : Nat) : Int := 10 ^ n
end Go.Proofs.Ytekhhekkepijoaa
