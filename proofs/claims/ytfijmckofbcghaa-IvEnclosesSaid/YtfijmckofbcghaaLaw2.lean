/-
  Chapter 2's example, and what the statements of chapter 2 ask of less.
-/
import Derived.Test.YtfijmckofbcghaaIv
import Derived.Test.YtfijmckofbcghaaIvDiv
import Derived.Test.YtfijmckofbcghaaHandIv
import Derived.Test.YtfijmckofbcghaaReg2
namespace Go.Proofs.Ytfijmckofbcghaa
set_option linter.unusedVariables false
open Go.ChangeShapes Go.WideShapes Go.ChangeAt Go.RowKit

set_option maxHeartbeats 4000000 in
theorem known2_c  (W : World) :
    Calls Try.prog 14 #[] W fun e w' => e = .returned (.bool true) ∧ More W w' := by
  have k1 : ivMul (ivOf (-1) 1) (ivOf 0 65537) = ⟨-2, 2, false⟩ := by kernel_rfl
  have k2 : ivNone = ⟨0, 0, true⟩ := rfl
  go_enter Try.func14, Try.ntmps14
  go_wp2_with (first | (go_at_call 11; (with_reducible refine (of_c _ _ _).mono ?_); rintro e w' ⟨rfl, r, rfl⟩) | (go_at_call 12; (with_reducible refine (none_c _).mono ?_); rintro e w' ⟨rfl, r, rfl⟩) | (go_at_call 38; (with_reducible refine (mul_iv_c _ _ _).mono ?_); rintro e w' ⟨rfl, r, rfl⟩) | (go_at_call 38; (with_reducible refine (mul_iv_c _ ⟨_, _, _⟩ _).mono ?_); rintro e w' ⟨rfl, r, rfl⟩) | (go_at_call 38; (with_reducible refine (mul_iv_c ⟨_, _, _⟩ _ _).mono ?_); rintro e w' ⟨rfl, r, rfl⟩) | (go_at_call 38; (with_reducible refine (mul_iv_c ⟨_, _, _⟩ ⟨_, _, _⟩ _).mono ?_); rintro e w' ⟨rfl, r, rfl⟩))
  go_returns
  exact ⟨rfl, (by repeat (first | exact More.refl _ | refine More.alloc ?_ _ | refine More.more ?_ _ | refine More.drew ?_ | refine More.drewN ?_ _))⟩

set_option maxHeartbeats 4000000 in
theorem linl_c (a b : Iv) (W : World) :
    Calls Try.prog 52 #[ivV a, ivV b] W fun e w' => e = .returned (.bool (!ivRight b || ivInside a b)) ∧ More W w' := by
  cases h0 : ivRight b <;> cases h1 : ivInside a b
  all_goals
    go_enter Try.func52, Try.ntmps52
    go_wp2_with (first | (go_at_call 27; (with_reducible refine (inside_c _ _ _).mono ?_); rintro e w' ⟨rfl, r, rfl⟩) | (go_at_call 27; (with_reducible refine (inside_c _ ⟨_, _, _⟩ _).mono ?_); rintro e w' ⟨rfl, r, rfl⟩) | (go_at_call 27; (with_reducible refine (inside_c ⟨_, _, _⟩ _ _).mono ?_); rintro e w' ⟨rfl, r, rfl⟩) | (go_at_call 27; (with_reducible refine (inside_c ⟨_, _, _⟩ ⟨_, _, _⟩ _).mono ?_); rintro e w' ⟨rfl, r, rfl⟩) | (go_at_call 28; (with_reducible refine (right_c _ _).mono ?_); rintro e w' ⟨rfl, r, rfl⟩) | (go_at_call 28; (with_reducible refine (right_c ⟨_, _, _⟩ _).mono ?_); rintro e w' ⟨rfl, r, rfl⟩))
    go_returns
    exact ⟨rfl, (by repeat (first | exact More.refl _ | refine More.alloc ?_ _ | refine More.more ?_ _ | refine More.drew ?_ | refine More.drewN ?_ _))⟩

end Go.Proofs.Ytfijmckofbcghaa

