/-
  The contracts of the intervals that are handed in, of raw numbers.
-/
import Derived.Test.YtglamojhaoiejaaHand
import Derived.Test.YtglamojhaoiejaaRefIv
import Derived.Test.YtglamojhaoiejaaIvMath2
namespace Go.Proofs.Ytglamojhaoiejaa
set_option linter.unusedVariables false
open Go.ChangeShapes Go.WideShapes Go.ChangeAt Go.RowKit

set_option maxHeartbeats 4000000 in
theorem within_c (n a b : Int) (W : World) :
    Calls Try.prog 23 #[.int .i64 n, .int .i64 a, .int .i64 b] W fun e w' => e = .returned (.int .i64 (within n a b)) ∧ W = w' := by
  go_enter Try.func23, Try.ntmps23
  go_wp2_with fail
  go_returns
  exact ⟨rfl, rfl⟩

set_option maxHeartbeats 4000000 in
theorem hwide_c (x w : Int) (h : -1152921504606846976 ≤ w) (h' : w ≤ 1152921504606846976) (W : World) :
    Calls Try.prog 13 #[.int .i64 x, .int .i64 w] W fun e w' => e = .returned (ivV (hWide x w)) ∧ More W w' := by
  have hb := within_bd x (-1073741824) 1073741824 (by omega)
  unfold hWide
  go_enter Try.func13, Try.ntmps13
  go_wp2_with (first | (go_at_call 23; (with_reducible refine (within_c _ _ _ _).mono ?_); rintro e w' ⟨rfl, rfl⟩))
  go_returns
  exact ⟨rfl, (by repeat (first | exact More.refl _ | refine More.alloc ?_ _ | refine More.more ?_ _ | refine More.drew ?_ | refine More.drewN ?_ _))⟩

end Go.Proofs.Ytglamojhaoiejaa

