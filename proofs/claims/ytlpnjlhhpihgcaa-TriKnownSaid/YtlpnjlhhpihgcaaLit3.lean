/-
  The calls of chapter 3 at the known intervals and words of its example.
-/
import Derived.Test.YtlpnjlhhpihgcaaLaw3
namespace Go.Proofs.Ytlpnjlhhpihgcaa
set_option linter.unusedVariables false
open Go.ChangeShapes Go.WideShapes Go.ChangeAt Go.RowKit

theorem lit_Lit3_0 (W : World) : Calls Try.prog 7 #[.int .i64 1, .int .i64 3] W fun e w' => e = .returned (ivV ⟨1, 3, false⟩) ∧ More W w' := lit_of (of_c 1 3 W) (by kernel_rfl)
theorem lit_Lit3_1 (W : World) : Calls Try.prog 7 #[.int .i64 3, .int .i64 5] W fun e w' => e = .returned (ivV ⟨3, 5, false⟩) ∧ More W w' := lit_of (of_c 3 5 W) (by kernel_rfl)
theorem lit_Lit3_2 (W : World) : Calls Try.prog 7 #[.int .i64 4, .int .i64 5] W fun e w' => e = .returned (ivV ⟨4, 5, false⟩) ∧ More W w' := lit_of (of_c 4 5 W) (by kernel_rfl)
theorem lit_Lit3_3 (W : World) : Calls Try.prog 11 #[] W fun e w' => e = .returned (ivV ⟨0, 0, true⟩) ∧ More W w' := lit_of (none_c  W) (by kernel_rfl)
theorem lit_Lit3_4 (W : World) : Calls Try.prog 9 #[ivV ⟨1, 3, false⟩, ivV ⟨3, 5, false⟩] W fun e w' => e = .returned (.int .i64 1) ∧ More W w' := lit_of (tna_c ⟨1, 3, false⟩ ⟨3, 5, false⟩ W) (by kernel_rfl)
theorem lit_Lit3_5 (W : World) : Calls Try.prog 10 #[ivV ⟨3, 5, false⟩, ivV ⟨1, 3, false⟩] W fun e w' => e = .returned (.int .i64 2) ∧ More W w' := lit_of (tless_c ⟨3, 5, false⟩ ⟨1, 3, false⟩ W) (by kernel_rfl)
theorem lit_Lit3_6 (W : World) : Calls Try.prog 9 #[ivV ⟨3, 5, false⟩, ivV ⟨1, 3, false⟩] W fun e w' => e = .returned (.int .i64 0) ∧ More W w' := lit_of (tna_c ⟨3, 5, false⟩ ⟨1, 3, false⟩ W) (by kernel_rfl)
theorem lit_Lit3_7 (W : World) : Calls Try.prog 10 #[ivV ⟨0, 0, true⟩, ivV ⟨1, 3, false⟩] W fun e w' => e = .returned (.int .i64 0) ∧ More W w' := lit_of (tless_c ⟨0, 0, true⟩ ⟨1, 3, false⟩ W) (by kernel_rfl)
theorem lit_Lit3_8 (W : World) : Calls Try.prog 9 #[ivV ⟨4, 5, false⟩, ivV ⟨1, 3, false⟩] W fun e w' => e = .returned (.int .i64 2) ∧ More W w' := lit_of (tna_c ⟨4, 5, false⟩ ⟨1, 3, false⟩ W) (by kernel_rfl)
theorem lit_Lit3_9 (W : World) : Calls Try.prog 12 #[.int .i64 0] W fun e w' => e = .returned (.int .i64 0) ∧ More W w' := lit_of (tnot_c 0 W) (by kernel_rfl)
theorem lit_Lit3_10 (W : World) : Calls Try.prog 12 #[.int .i64 1] W fun e w' => e = .returned (.int .i64 2) ∧ More W w' := lit_of (tnot_c 1 W) (by kernel_rfl)
theorem lit_Lit3_11 (W : World) : Calls Try.prog 13 #[.int .i64 0, .int .i64 0] W fun e w' => e = .returned (.int .i64 0) ∧ More W w' := lit_of (tand_c 0 0 W) (by kernel_rfl)
theorem lit_Lit3_12 (W : World) : Calls Try.prog 14 #[.int .i64 0, .int .i64 0] W fun e w' => e = .returned (.int .i64 0) ∧ More W w' := lit_of (tor_c 0 0 W) (by kernel_rfl)
theorem lit_Lit3_13 (W : World) : Calls Try.prog 13 #[.int .i64 0, .int .i64 1] W fun e w' => e = .returned (.int .i64 0) ∧ More W w' := lit_of (tand_c 0 1 W) (by kernel_rfl)
theorem lit_Lit3_14 (W : World) : Calls Try.prog 14 #[.int .i64 0, .int .i64 1] W fun e w' => e = .returned (.int .i64 1) ∧ More W w' := lit_of (tor_c 0 1 W) (by kernel_rfl)
theorem lit_Lit3_15 (W : World) : Calls Try.prog 13 #[.int .i64 0, .int .i64 2] W fun e w' => e = .returned (.int .i64 2) ∧ More W w' := lit_of (tand_c 0 2 W) (by kernel_rfl)
theorem lit_Lit3_16 (W : World) : Calls Try.prog 14 #[.int .i64 0, .int .i64 2] W fun e w' => e = .returned (.int .i64 0) ∧ More W w' := lit_of (tor_c 0 2 W) (by kernel_rfl)
theorem lit_Lit3_17 (W : World) : Calls Try.prog 13 #[.int .i64 1, .int .i64 0] W fun e w' => e = .returned (.int .i64 0) ∧ More W w' := lit_of (tand_c 1 0 W) (by kernel_rfl)
theorem lit_Lit3_18 (W : World) : Calls Try.prog 14 #[.int .i64 1, .int .i64 0] W fun e w' => e = .returned (.int .i64 1) ∧ More W w' := lit_of (tor_c 1 0 W) (by kernel_rfl)
theorem lit_Lit3_19 (W : World) : Calls Try.prog 13 #[.int .i64 1, .int .i64 1] W fun e w' => e = .returned (.int .i64 1) ∧ More W w' := lit_of (tand_c 1 1 W) (by kernel_rfl)
theorem lit_Lit3_20 (W : World) : Calls Try.prog 14 #[.int .i64 1, .int .i64 1] W fun e w' => e = .returned (.int .i64 1) ∧ More W w' := lit_of (tor_c 1 1 W) (by kernel_rfl)
theorem lit_Lit3_21 (W : World) : Calls Try.prog 13 #[.int .i64 1, .int .i64 2] W fun e w' => e = .returned (.int .i64 2) ∧ More W w' := lit_of (tand_c 1 2 W) (by kernel_rfl)
theorem lit_Lit3_22 (W : World) : Calls Try.prog 14 #[.int .i64 1, .int .i64 2] W fun e w' => e = .returned (.int .i64 1) ∧ More W w' := lit_of (tor_c 1 2 W) (by kernel_rfl)
theorem lit_Lit3_23 (W : World) : Calls Try.prog 13 #[.int .i64 2, .int .i64 0] W fun e w' => e = .returned (.int .i64 2) ∧ More W w' := lit_of (tand_c 2 0 W) (by kernel_rfl)
theorem lit_Lit3_24 (W : World) : Calls Try.prog 14 #[.int .i64 2, .int .i64 0] W fun e w' => e = .returned (.int .i64 0) ∧ More W w' := lit_of (tor_c 2 0 W) (by kernel_rfl)
theorem lit_Lit3_25 (W : World) : Calls Try.prog 13 #[.int .i64 2, .int .i64 1] W fun e w' => e = .returned (.int .i64 2) ∧ More W w' := lit_of (tand_c 2 1 W) (by kernel_rfl)
theorem lit_Lit3_26 (W : World) : Calls Try.prog 14 #[.int .i64 2, .int .i64 1] W fun e w' => e = .returned (.int .i64 1) ∧ More W w' := lit_of (tor_c 2 1 W) (by kernel_rfl)
theorem lit_Lit3_27 (W : World) : Calls Try.prog 13 #[.int .i64 2, .int .i64 2] W fun e w' => e = .returned (.int .i64 2) ∧ More W w' := lit_of (tand_c 2 2 W) (by kernel_rfl)
theorem lit_Lit3_28 (W : World) : Calls Try.prog 14 #[.int .i64 2, .int .i64 2] W fun e w' => e = .returned (.int .i64 2) ∧ More W w' := lit_of (tor_c 2 2 W) (by kernel_rfl)
theorem lit_Lit3_29 (W : World) : Calls Try.prog 13 #[.int .i64 7, .int .i64 1] W fun e w' => e = .returned (.int .i64 0) ∧ More W w' := lit_of (tand_c 7 1 W) (by kernel_rfl)
theorem lit_Lit3_30 (W : World) : Calls Try.prog 14 #[.int .i64 (-1), .int .i64 2] W fun e w' => e = .returned (.int .i64 0) ∧ More W w' := lit_of (tor_c (-1) 2 W) (by kernel_rfl)
theorem lit_Lit3_31 (W : World) : Calls Try.prog 12 #[.int .i64 9] W fun e w' => e = .returned (.int .i64 0) ∧ More W w' := lit_of (tnot_c 9 W) (by kernel_rfl)

end Go.Proofs.Ytlpnjlhhpihgcaa

