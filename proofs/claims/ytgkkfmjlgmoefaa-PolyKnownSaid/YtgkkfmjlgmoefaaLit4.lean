/-
  The calls of chapter 4's statement at known numbers.
-/
import Derived.Test.YtgkkfmjlgmoefaaLaw4
namespace Go.Proofs.Ytgkkfmjlgmoefaa
set_option linter.unusedVariables false
open Go.ChangeShapes Go.WideShapes Go.ChangeAt Go.RowKit

theorem slope_nil (W : World) : Calls Try.prog 11 #[.slice none 0 0] W fun e w' => e = .returned (.slice none 0 0) ∧ More W w' := by
  go_enter Try.func11, Try.ntmps11
  go_wp2_with fail
  go_returns
  exact ⟨rfl, More.refl _⟩

theorem lit_Lit4_0 (W : World) : Calls Try.prog 12 #[.int .i64 1] W fun e w' => e = .returned (ivV ⟨65536, 65536, false⟩) ∧ More W w' := lit_of (whole_c 1 W) (by kernel_rfl)
theorem lit_Lit4_1 (W : World) : Calls Try.prog 12 #[.int .i64 2] W fun e w' => e = .returned (ivV ⟨131072, 131072, false⟩) ∧ More W w' := lit_of (whole_c 2 W) (by kernel_rfl)
theorem lit_Lit4_2 (W : World) : Calls Try.prog 12 #[.int .i64 3] W fun e w' => e = .returned (ivV ⟨196608, 196608, false⟩) ∧ More W w' := lit_of (whole_c 3 W) (by kernel_rfl)
theorem lit_Lit4_3 (W : World) : Calls Try.prog 12 #[.int .i64 4] W fun e w' => e = .returned (ivV ⟨262144, 262144, false⟩) ∧ More W w' := lit_of (whole_c 4 W) (by kernel_rfl)
theorem lit_Lit4_4 (W : World) : Calls Try.prog 12 #[.int .i64 6] W fun e w' => e = .returned (ivV ⟨393216, 393216, false⟩) ∧ More W w' := lit_of (whole_c 6 W) (by kernel_rfl)
theorem lit_Lit4_5 (W : World) : Calls Try.prog 16 #[.int .i64 0] W fun e w' => e = .returned (ivV ⟨0, 0, false⟩) ∧ More W w' := lit_of (point_c 0 W) (by kernel_rfl)
theorem lit_Lit4_6 (W : World) : Calls Try.prog 15 #[] W fun e w' => e = .returned (ivV ⟨0, 0, true⟩) ∧ More W w' := lit_of (none_c  W) (by kernel_rfl)

end Go.Proofs.Ytgkkfmjlgmoefaa

