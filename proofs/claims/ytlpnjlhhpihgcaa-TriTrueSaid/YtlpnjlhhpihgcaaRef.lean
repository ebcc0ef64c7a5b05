/-
  The contracts of what the statements of chapter 1 lean on: the plain saying of the chapter, and the numbers that are handed in.
-/
import Derived.Test.YtlpnjlhhpihgcaaNum
namespace Go.Proofs.Ytlpnjlhhpihgcaa
set_option linter.unusedVariables false
open Go.ChangeShapes Go.WideShapes Go.ChangeAt Go.RowKit

set_option maxHeartbeats 4000000 in
theorem rin_c (n : Int) (W : World) :
    Calls Try.prog 30 #[.int .i64 n] W fun e w' => e = .returned (.bool (isIn n)) ∧ W = w' := by
  by_cases h1 : -1073741824 ≤ n <;> by_cases h2 : n ≤ 1073741824
  all_goals
    go_enter Try.func30, Try.ntmps30
    go_wp2_with fail
    go_ret
    exact ⟨by simp [isIn, h1, h2], rfl⟩

end Go.Proofs.Ytlpnjlhhpihgcaa

