/-
  Chapter 4's example.
-/
import Derived.Test.YtglamojhaoiejaaPoly
import Derived.Test.YtglamojhaoiejaaHandIv
namespace Go.Proofs.Ytglamojhaoiejaa
set_option linter.unusedVariables false
open Go.ChangeShapes Go.WideShapes Go.ChangeAt Go.RowKit

set_option maxRecDepth 100000 in
set_option maxHeartbeats 4000000 in
theorem known4_c  (W : World) :
    Calls Try.prog 8 #[] W fun e w' => e = .returned (.bool true) ∧ More W w' := by
  have k1 : ivWhole 1 = ⟨65536, 65536, false⟩ := by kernel_rfl
  have k2 : ivWhole 2 = ⟨131072, 131072, false⟩ := by kernel_rfl
  have k3 : ivWhole 3 = ⟨196608, 196608, false⟩ := by kernel_rfl
  have k4 : ivWhole 17 = ⟨1114112, 1114112, false⟩ := by kernel_rfl
  have k5 : horner [⟨65536, 65536, false⟩, ⟨131072, 131072, false⟩, ⟨196608, 196608, false⟩] ⟨131072, 131072, false⟩ = ⟨1114112, 1114112, false⟩ := by kernel_rfl
  have k6 : ivRight ⟨1114112, 1114112, false⟩ = true := by kernel_rfl
  go_enter Try.func8, Try.ntmps8
  go_wp2_with (first | (go_at_call 7; (with_reducible refine (whole_c _ _).mono ?_); rintro e w' ⟨rfl, r, rfl⟩) | (go_at_call 9; (with_reducible refine (horner_c _ _ _ (by go_row) (by go_len)).mono ?_); rintro e w' ⟨rfl, r, rfl⟩) | (go_at_call 9; (with_reducible refine (horner_c _ _ ⟨_, _, _⟩ (by go_row) (by go_len)).mono ?_); rintro e w' ⟨rfl, r, rfl⟩) | (go_at_call 15; (with_reducible refine (right_c _ _).mono ?_); rintro e w' ⟨rfl, r, rfl⟩) | (go_at_call 15; (with_reducible refine (right_c ⟨_, _, _⟩ _).mono ?_); rintro e w' ⟨rfl, r, rfl⟩))
  go_returns
  exact ⟨rfl, (by repeat (first | exact More.refl _ | refine More.alloc ?_ _ | refine More.more ?_ _ | refine More.drew ?_ | refine More.drewN ?_ _))⟩

end Go.Proofs.Ytglamojhaoiejaa

