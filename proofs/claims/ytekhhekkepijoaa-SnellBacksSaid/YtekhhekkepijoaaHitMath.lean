/-
  Where a ray meets a face, in plain numbers.
-/
import Derived.Test.YtekhhekkepijoaaGy5
import Derived.Test.YtekhhekkepijoaaVec
import Derived.Test.YtekhhekkepijoaaGq5
namespace Go.Proofs.Ytekhhekkepijoaa
set_option linter.unusedVariables false

def nonePl : Pl := ⟨ivNone, ivNone, ivNone⟩
end Go.Proofs.Ytekhhekkepijoaa

