/-
  Chapter 3's example.
-/
import Derived.Test.YtlpnjlhhpihgcaaTri
import Derived.Test.YtlpnjlhhpihgcaaHandIv
import Derived.Test.YtlpnjlhhpihgcaaReg3
namespace Go.Proofs.Ytlpnjlhhpihgcaa
set_option linter.unusedVariables false
open Go.ChangeShapes Go.WideShapes Go.ChangeAt Go.RowKit

set_option maxHeartbeats 4000000 in
theorem known3_c  (W : World) :
    Calls Try.prog 8 #[] W fun e w' => e = .returned (.bool true) ∧ More W w' := by
  have k1 : ivOf 1 3 = ⟨1, 3, false⟩ := by kernel_rfl
  have k2 : ivOf 3 5 = ⟨3, 5, false⟩ := by kernel_rfl
  have k3 : ivOf 1 2 = ⟨1, 2, false⟩ := by kernel_rfl
  have k4 : triLess ⟨1, 3, false⟩ ⟨3, 5, false⟩ = 0 := by kernel_rfl
  have k5 : triLess ⟨1, 2, false⟩ ⟨3, 5, false⟩ = 1 := by kernel_rfl
  have k6 : triNot 2 = 1 := by kernel_rfl
  go_enter Try.func8, Try.ntmps8
  go_wp2_with (first | (go_at_call 7; (with_reducible refine (of_c _ _ _).mono ?_); rintro e w' ⟨rfl, r, rfl⟩) | (go_at_call 10; (with_reducible refine (tless_c _ _ _).mono ?_); rintro e w' ⟨rfl, r, rfl⟩) | (go_at_call 10; (with_reducible refine (tless_c _ ⟨_, _, _⟩ _).mono ?_); rintro e w' ⟨rfl, r, rfl⟩) | (go_at_call 10; (with_reducible refine (tless_c ⟨_, _, _⟩ _ _).mono ?_); rintro e w' ⟨rfl, r, rfl⟩) | (go_at_call 10; (with_reducible refine (tless_c ⟨_, _, _⟩ ⟨_, _, _⟩ _).mono ?_); rintro e w' ⟨rfl, r, rfl⟩) | (go_at_call 12; (with_reducible refine (tnot_c _ _).mono ?_); rintro e w' ⟨rfl, r, rfl⟩))
  go_returns
  exact ⟨rfl, (by repeat (first | exact More.refl _ | refine More.alloc ?_ _ | refine More.more ?_ _ | refine More.drew ?_ | refine More.drewN ?_ _))⟩

end Go.Proofs.Ytlpnjlhhpihgcaa

