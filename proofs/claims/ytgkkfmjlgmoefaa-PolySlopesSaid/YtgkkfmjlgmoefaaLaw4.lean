/-
  Chapter 4's example.
-/
import Derived.Test.YtgkkfmjlgmoefaaPoly
import Derived.Test.YtgkkfmjlgmoefaaHandIv
namespace Go.Proofs.Ytgkkfmjlgmoefaa
set_option linter.unusedVariables false
open Go.ChangeShapes Go.WideShapes Go.ChangeAt Go.RowKit

set_option maxRecDepth 100000 in
set_option maxHeartbeats 4000000 in
theorem known4_c  (W : World) :
    Calls Try.prog 13 #[] W fun e w' => e = .returned (.bool true) ∧ More W w' := by
  have k1 : ivWhole 1 = ⟨65536, 65536, false⟩ := by kernel_rfl
  have k2 : ivWhole 2 = ⟨131072, 131072, false⟩ := by kernel_rfl
  have k3 : ivWhole 3 = ⟨196608, 196608, false⟩ := by kernel_rfl
  have k4 : ivWhole 17 = ⟨1114112, 1114112, false⟩ := by kernel_rfl
  have k5 : horner [⟨65536, 65536, false⟩, ⟨131072, 131072, false⟩, ⟨196608, 196608, false⟩] ⟨131072, 131072, false⟩ = ⟨1114112, 1114112, false⟩ := by kernel_rfl
  have k6 : ivRight ⟨1114112, 1114112, false⟩ = true := by kernel_rfl
  go_enter Try.func13, Try.ntmps13
  go_wp2_with (first | (go_at_call 12; (with_reducible refine (whole_c _ _).mono ?_); rintro e w' ⟨rfl, r, rfl⟩) | (go_at_call 14; (with_reducible refine (horner_c _ _ _ (by (repeat (first | assumption | with_reducible apply Row.nil | with_reducible apply Row.plus | with_reducible apply Row.more | with_reducible apply Row.drew | with_reducible apply Row.drewN | (apply row_lit1 <;> first | rfl | (simp; done) | (simp; omega)) | (apply row_num1 <;> first | rfl | (simp; done) | (simp; omega)) | (apply row_lit2 <;> first | rfl | (simp; done) | (simp; omega)) | (apply row_num2 <;> first | rfl | (simp; done) | (simp; omega)) | (apply row_lit3 <;> first | rfl | (simp; done) | (simp; omega)) | (apply row_num3 <;> first | rfl | (simp; done) | (simp; omega)) | with_reducible apply Row.alloc))) (by (first | omega | decide | (simp; done) | (simp; omega)))).mono ?_); rintro e w' ⟨rfl, r, rfl⟩) | (go_at_call 14; (with_reducible refine (horner_c _ _ ⟨_, _, _⟩ (by (repeat (first | assumption | with_reducible apply Row.nil | with_reducible apply Row.plus | with_reducible apply Row.more | with_reducible apply Row.drew | with_reducible apply Row.drewN | (apply row_lit1 <;> first | rfl | (simp; done) | (simp; omega)) | (apply row_num1 <;> first | rfl | (simp; done) | (simp; omega)) | (apply row_lit2 <;> first | rfl | (simp; done) | (simp; omega)) | (apply row_num2 <;> first | rfl | (simp; done) | (simp; omega)) | (apply row_lit3 <;> first | rfl | (simp; done) | (simp; omega)) | (apply row_num3 <;> first | rfl | (simp; done) | (simp; omega)) | with_reducible apply Row.alloc))) (by (first | omega | decide | (simp; done) | (simp; omega)))).mono ?_); rintro e w' ⟨rfl, r, rfl⟩) | (go_at_call 20; (with_reducible refine (right_c _ _).mono ?_); rintro e w' ⟨rfl, r, rfl⟩) | (go_at_call 20; (with_reducible refine (right_c ⟨_, _, _⟩ _).mono ?_); rintro e w' ⟨rfl, r, rfl⟩))
  go_returns
  exact ⟨rfl, (by repeat (first | exact More.refl _ | refine More.alloc ?_ _ | refine More.more ?_ _ | refine More.drew ?_ | refine More.drewN ?_ _))⟩

end Go.Proofs.Ytgkkfmjlgmoefaa

