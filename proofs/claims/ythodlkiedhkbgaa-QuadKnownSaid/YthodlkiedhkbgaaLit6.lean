/-
  The calls of chapter 6 at the known intervals of its example.
-/
import Derived.Test.YthodlkiedhkbgaaQuad
namespace Go.Proofs.Ythodlkiedhkbgaa
set_option linter.unusedVariables false
open Go.ChangeShapes Go.WideShapes Go.ChangeAt Go.RowKit

theorem lit_Lit6_0 (W : World) : Calls Try.prog 9 #[.int .i64 0] W fun e w' => e = .returned (ivV ⟨0, 0, false⟩) ∧ More W w' := lit_of (whole_c 0 W) (by kernel_rfl)
theorem lit_Lit6_1 (W : World) : Calls Try.prog 9 #[.int .i64 1] W fun e w' => e = .returned (ivV ⟨65536, 65536, false⟩) ∧ More W w' := lit_of (whole_c 1 W) (by kernel_rfl)
theorem lit_Lit6_2 (W : World) : Calls Try.prog 9 #[.int .i64 2] W fun e w' => e = .returned (ivV ⟨131072, 131072, false⟩) ∧ More W w' := lit_of (whole_c 2 W) (by kernel_rfl)
theorem lit_Lit6_3 (W : World) : Calls Try.prog 9 #[.int .i64 5] W fun e w' => e = .returned (ivV ⟨327680, 327680, false⟩) ∧ More W w' := lit_of (whole_c 5 W) (by kernel_rfl)
theorem lit_Lit6_4 (W : World) : Calls Try.prog 9 #[.int .i64 12] W fun e w' => e = .returned (ivV ⟨786432, 786432, false⟩) ∧ More W w' := lit_of (whole_c 12 W) (by kernel_rfl)
theorem lit_Lit6_5 (W : World) : Calls Try.prog 9 #[.int .i64 (-5)] W fun e w' => e = .returned (ivV ⟨-327680, -327680, false⟩) ∧ More W w' := lit_of (whole_c (-5) W) (by kernel_rfl)
theorem lit_Lit6_6 (W : World) : Calls Try.prog 10 #[.int .i64 (-1), .int .i64 1] W fun e w' => e = .returned (ivV ⟨-1, 1, false⟩) ∧ More W w' := lit_of (of_c (-1) 1 W) (by kernel_rfl)
theorem lit_Lit6_7 (W : World) : Calls Try.prog 11 #[] W fun e w' => e = .returned (ivV ⟨0, 0, true⟩) ∧ More W w' := lit_of (none_c  W) (by kernel_rfl)
theorem lit_Lit6_8 (W : World) : Calls Try.prog 8 #[ivV ⟨131072, 131072, false⟩, ivV ⟨-327680, -327680, false⟩, ivV ⟨786432, 786432, false⟩] W fun e w' => e = .returned (.tuple #[ivV ⟨131072, 131072, false⟩, .int .i64 1]) ∧ More W w' := lit_of (near_c ⟨131072, 131072, false⟩ ⟨-327680, -327680, false⟩ ⟨786432, 786432, false⟩ W) (by kernel_rfl)
theorem lit_Lit6_9 (W : World) : Calls Try.prog 8 #[ivV ⟨65536, 65536, false⟩, ivV ⟨0, 0, false⟩, ivV ⟨65536, 65536, false⟩] W fun e w' => e = .returned (.tuple #[ivV ⟨0, 0, true⟩, .int .i64 2]) ∧ More W w' := lit_of (near_c ⟨65536, 65536, false⟩ ⟨0, 0, false⟩ ⟨65536, 65536, false⟩ W) (by kernel_rfl)
theorem lit_Lit6_10 (W : World) : Calls Try.prog 8 #[ivV ⟨65536, 65536, false⟩, ivV ⟨-1, 1, false⟩, ivV ⟨-1, 1, false⟩] W fun e w' => e = .returned (.tuple #[ivV ⟨0, 0, true⟩, .int .i64 0]) ∧ More W w' := lit_of (near_c ⟨65536, 65536, false⟩ ⟨-1, 1, false⟩ ⟨-1, 1, false⟩ W) (by kernel_rfl)
theorem lit_Lit6_11 (W : World) : Calls Try.prog 8 #[ivV ⟨0, 0, true⟩, ivV ⟨65536, 65536, false⟩, ivV ⟨65536, 65536, false⟩] W fun e w' => e = .returned (.tuple #[ivV ⟨0, 0, true⟩, .int .i64 0]) ∧ More W w' := lit_of (near_c ⟨0, 0, true⟩ ⟨65536, 65536, false⟩ ⟨65536, 65536, false⟩ W) (by kernel_rfl)
theorem lit_Lit6_12 (W : World) : Calls Try.prog 8 #[ivV ⟨0, 0, false⟩, ivV ⟨65536, 65536, false⟩, ivV ⟨327680, 327680, false⟩] W fun e w' => e = .returned (.tuple #[ivV ⟨0, 0, true⟩, .int .i64 0]) ∧ More W w' := lit_of (near_c ⟨0, 0, false⟩ ⟨65536, 65536, false⟩ ⟨327680, 327680, false⟩ W) (by kernel_rfl)

end Go.Proofs.Ythodlkiedhkbgaa

