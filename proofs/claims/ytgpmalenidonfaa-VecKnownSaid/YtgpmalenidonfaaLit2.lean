/-
  The calls of chapter 2 at the known intervals of its example.
-/
import Derived.Test.YtgpmalenidonfaaLaw2
namespace Go.Proofs.Ytgpmalenidonfaa
set_option linter.unusedVariables false
open Go.ChangeShapes Go.WideShapes Go.ChangeAt Go.RowKit

theorem lit_Lit2_0 (W : World) : Calls Try.prog 9 #[.int .i64 1] W fun e w' => e = .returned (ivV ⟨65536, 65536, false⟩) ∧ More W w' := lit_of (whole_c 1 W) (by kernel_rfl)
theorem lit_Lit2_1 (W : World) : Calls Try.prog 19 #[.int .i64 (-131072), .int .i64 196608] W fun e w' => e = .returned (ivV ⟨-131072, 196608, false⟩) ∧ More W w' := lit_of (of_c (-131072) 196608 W) (by kernel_rfl)
theorem lit_Lit2_2 (W : World) : Calls Try.prog 10 #[] W fun e w' => e = .returned (ivV ⟨0, 0, true⟩) ∧ More W w' := lit_of (none_c  W) (by kernel_rfl)
theorem lit_Lit2_3 (W : World) : Calls Try.prog 19 #[.int .i64 0, .int .i64 5] W fun e w' => e = .returned (ivV ⟨0, 5, false⟩) ∧ More W w' := lit_of (of_c 0 5 W) (by kernel_rfl)
-- no meniscus/iv.Split
-- no meniscus/iv.Split
theorem lit_Lit2_4 (W : World) : Calls Try.prog 25 #[.int .i64 65536] W fun e w' => e = .returned (ivV ⟨65536, 65536, false⟩) ∧ More W w' := lit_of (point_c 65536 W) (by kernel_rfl)
theorem lit_Lit2_5 (W : World) : Calls Try.prog 19 #[.int .i64 2, .int .i64 1] W fun e w' => e = .returned (ivV ⟨0, 0, true⟩) ∧ More W w' := lit_of (of_c 2 1 W) (by kernel_rfl)
theorem lit_Lit2_6 (W : World) : Calls Try.prog 9 #[.int .i64 1073741824] W fun e w' => e = .returned (ivV ⟨0, 0, true⟩) ∧ More W w' := lit_of (whole_c 1073741824 W) (by kernel_rfl)
theorem lit_Lit2_7 (W : World) : Calls Try.prog 25 #[.int .i64 1073741825] W fun e w' => e = .returned (ivV ⟨0, 0, true⟩) ∧ More W w' := lit_of (point_c 1073741825 W) (by kernel_rfl)
theorem lit_Lit2_8 (W : World) : Calls Try.prog 50 #[ivV ⟨-131072, 196608, false⟩, ivV ⟨65536, 65536, false⟩] W fun e w' => e = .returned (ivV ⟨-65536, 262144, false⟩) ∧ More W w' := lit_of (add_c ⟨-131072, 196608, false⟩ ⟨65536, 65536, false⟩ W) (by kernel_rfl)
theorem lit_Lit2_9 (W : World) : Calls Try.prog 19 #[.int .i64 (-65536), .int .i64 262144] W fun e w' => e = .returned (ivV ⟨-65536, 262144, false⟩) ∧ More W w' := lit_of (of_c (-65536) 262144 W) (by kernel_rfl)
theorem lit_Lit2_10 (W : World) : Calls Try.prog 51 #[ivV ⟨65536, 65536, false⟩, ivV ⟨-131072, 196608, false⟩] W fun e w' => e = .returned (ivV ⟨-131072, 196608, false⟩) ∧ More W w' := lit_of (sub_c ⟨65536, 65536, false⟩ ⟨-131072, 196608, false⟩ W) (by kernel_rfl)
theorem lit_Lit2_11 (W : World) : Calls Try.prog 57 #[ivV ⟨-131072, 196608, false⟩] W fun e w' => e = .returned (ivV ⟨-196608, 131072, false⟩) ∧ More W w' := lit_of (neg_c ⟨-131072, 196608, false⟩ W) (by kernel_rfl)
theorem lit_Lit2_12 (W : World) : Calls Try.prog 19 #[.int .i64 (-196608), .int .i64 131072] W fun e w' => e = .returned (ivV ⟨-196608, 131072, false⟩) ∧ More W w' := lit_of (of_c (-196608) 131072 W) (by kernel_rfl)
-- no meniscus/iv.Times
theorem lit_Lit2_13 (W : World) : Calls Try.prog 19 #[.int .i64 (-393216), .int .i64 262144] W fun e w' => e = .returned (ivV ⟨-393216, 262144, false⟩) ∧ More W w' := lit_of (of_c (-393216) 262144 W) (by kernel_rfl)
theorem lit_Lit2_14 (W : World) : Calls Try.prog 54 #[ivV ⟨-131072, 196608, false⟩] W fun e w' => e = .returned (ivV ⟨0, 589824, false⟩) ∧ More W w' := lit_of (sqr_c ⟨-131072, 196608, false⟩ W) (by kernel_rfl)
theorem lit_Lit2_15 (W : World) : Calls Try.prog 19 #[.int .i64 0, .int .i64 589824] W fun e w' => e = .returned (ivV ⟨0, 589824, false⟩) ∧ More W w' := lit_of (of_c 0 589824 W) (by kernel_rfl)
theorem lit_Lit2_16 (W : World) : Calls Try.prog 59 #[ivV ⟨65536, 65536, false⟩, ivV ⟨-131072, 196608, false⟩] W fun e w' => e = .returned (ivV ⟨0, 0, true⟩) ∧ More W w' := lit_of (idiv_c ⟨65536, 65536, false⟩ ⟨-131072, 196608, false⟩ W) (by kernel_rfl)
theorem lit_Lit2_17 (W : World) : Calls Try.prog 19 #[.int .i64 131072, .int .i64 262144] W fun e w' => e = .returned (ivV ⟨131072, 262144, false⟩) ∧ More W w' := lit_of (of_c 131072 262144 W) (by kernel_rfl)
theorem lit_Lit2_18 (W : World) : Calls Try.prog 59 #[ivV ⟨65536, 65536, false⟩, ivV ⟨131072, 262144, false⟩] W fun e w' => e = .returned (ivV ⟨16384, 32768, false⟩) ∧ More W w' := lit_of (idiv_c ⟨65536, 65536, false⟩ ⟨131072, 262144, false⟩ W) (by kernel_rfl)
theorem lit_Lit2_19 (W : World) : Calls Try.prog 19 #[.int .i64 16384, .int .i64 32768] W fun e w' => e = .returned (ivV ⟨16384, 32768, false⟩) ∧ More W w' := lit_of (of_c 16384 32768 W) (by kernel_rfl)
theorem lit_Lit2_20 (W : World) : Calls Try.prog 58 #[ivV ⟨-131072, 196608, false⟩] W fun e w' => e = .returned (ivV ⟨0, 0, true⟩) ∧ More W w' := lit_of (iroot_c ⟨-131072, 196608, false⟩ W) (by kernel_rfl)
theorem lit_Lit2_21 (W : World) : Calls Try.prog 19 #[.int .i64 65536, .int .i64 262144] W fun e w' => e = .returned (ivV ⟨65536, 262144, false⟩) ∧ More W w' := lit_of (of_c 65536 262144 W) (by kernel_rfl)
theorem lit_Lit2_22 (W : World) : Calls Try.prog 58 #[ivV ⟨65536, 262144, false⟩] W fun e w' => e = .returned (ivV ⟨65536, 131072, false⟩) ∧ More W w' := lit_of (iroot_c ⟨65536, 262144, false⟩ W) (by kernel_rfl)
theorem lit_Lit2_23 (W : World) : Calls Try.prog 19 #[.int .i64 65536, .int .i64 131072] W fun e w' => e = .returned (ivV ⟨65536, 131072, false⟩) ∧ More W w' := lit_of (of_c 65536 131072 W) (by kernel_rfl)
theorem lit_Lit2_24 (W : World) : Calls Try.prog 25 #[.int .i64 5] W fun e w' => e = .returned (ivV ⟨5, 5, false⟩) ∧ More W w' := lit_of (point_c 5 W) (by kernel_rfl)
theorem lit_Lit2_25 (W : World) : Calls Try.prog 55 #[ivV ⟨65536, 65536, false⟩, ivV ⟨5, 5, false⟩] W fun e w' => e = .returned (ivV ⟨5, 65536, false⟩) ∧ More W w' := lit_of (hull_c ⟨65536, 65536, false⟩ ⟨5, 5, false⟩ W) (by kernel_rfl)
theorem lit_Lit2_26 (W : World) : Calls Try.prog 19 #[.int .i64 5, .int .i64 65536] W fun e w' => e = .returned (ivV ⟨5, 65536, false⟩) ∧ More W w' := lit_of (of_c 5 65536 W) (by kernel_rfl)
-- no meniscus/iv.Meet
theorem lit_Lit2_27 (W : World) : Calls Try.prog 25 #[.int .i64 1] W fun e w' => e = .returned (ivV ⟨1, 1, false⟩) ∧ More W w' := lit_of (point_c 1 W) (by kernel_rfl)
theorem lit_Lit2_28 (W : World) : Calls Try.prog 25 #[.int .i64 2] W fun e w' => e = .returned (ivV ⟨2, 2, false⟩) ∧ More W w' := lit_of (point_c 2 W) (by kernel_rfl)
-- no meniscus/iv.Meet
theorem lit_Lit2_29 (W : World) : Calls Try.prog 19 #[.int .i64 (-3), .int .i64 0] W fun e w' => e = .returned (ivV ⟨-3, 0, false⟩) ∧ More W w' := lit_of (of_c (-3) 0 W) (by kernel_rfl)
-- no meniscus/iv.Mid
theorem lit_Lit2_30 (W : World) : Calls Try.prog 45 #[ivV ⟨-131072, 196608, false⟩, .int .i64 0] W fun e w' => e = .returned (.bool true) ∧ More W w' := lit_of (has_c ⟨-131072, 196608, false⟩ 0 W) (by kernel_rfl)
theorem lit_Lit2_31 (W : World) : Calls Try.prog 45 #[ivV ⟨-131072, 196608, false⟩, .int .i64 1073741824] W fun e w' => e = .returned (.bool false) ∧ More W w' := lit_of (has_c ⟨-131072, 196608, false⟩ 1073741824 W) (by kernel_rfl)
theorem lit_Lit2_32 (W : World) : Calls Try.prog 56 #[ivV ⟨65536, 65536, false⟩, ivV ⟨-131072, 196608, false⟩] W fun e w' => e = .returned (.bool true) ∧ More W w' := lit_of (inside_c ⟨65536, 65536, false⟩ ⟨-131072, 196608, false⟩ W) (by kernel_rfl)
theorem lit_Lit2_33 (W : World) : Calls Try.prog 56 #[ivV ⟨-131072, 196608, false⟩, ivV ⟨65536, 65536, false⟩] W fun e w' => e = .returned (.bool false) ∧ More W w' := lit_of (inside_c ⟨-131072, 196608, false⟩ ⟨65536, 65536, false⟩ W) (by kernel_rfl)
theorem lit_Lit2_34 (W : World) : Calls Try.prog 19 #[.int .i64 0, .int .i64 2] W fun e w' => e = .returned (ivV ⟨0, 2, false⟩) ∧ More W w' := lit_of (of_c 0 2 W) (by kernel_rfl)
theorem lit_Lit2_35 (W : World) : Calls Try.prog 19 #[.int .i64 2, .int .i64 5] W fun e w' => e = .returned (ivV ⟨2, 5, false⟩) ∧ More W w' := lit_of (of_c 2 5 W) (by kernel_rfl)
theorem lit_Lit2_36 (W : World) : Calls Try.prog 50 #[ivV ⟨0, 0, true⟩, ivV ⟨65536, 65536, false⟩] W fun e w' => e = .returned (ivV ⟨0, 0, true⟩) ∧ More W w' := lit_of (add_c ⟨0, 0, true⟩ ⟨65536, 65536, false⟩ W) (by kernel_rfl)
theorem lit_Lit2_37 (W : World) : Calls Try.prog 44 #[ivV ⟨0, 0, true⟩] W fun e w' => e = .returned (.bool false) ∧ More W w' := lit_of (right_c ⟨0, 0, true⟩ W) (by kernel_rfl)
theorem lit_Lit2_38 (W : World) : Calls Try.prog 44 #[ivV ⟨2, 1, false⟩] W fun e w' => e = .returned (.bool false) ∧ More W w' := lit_of (right_c ⟨2, 1, false⟩ W) (by kernel_rfl)
-- no meniscus/iv.Mid
theorem lit_Lit2_39 (W : World) : Calls Try.prog 56 #[ivV ⟨0, 0, true⟩, ivV ⟨-131072, 196608, false⟩] W fun e w' => e = .returned (.bool false) ∧ More W w' := lit_of (inside_c ⟨0, 0, true⟩ ⟨-131072, 196608, false⟩ W) (by kernel_rfl)

end Go.Proofs.Ytgpmalenidonfaa

