/-
  The calls of chapter 9's closed sentence.
-/
import Derived.Test.YthnehnabldgagaaDoorLaw9
namespace Go.Proofs.YthnehnabldgagaaDoor
set_option linter.unusedVariables false
open Go.ChangeShapes Go.WideShapes Go.ChangeAt Go.RowKit

theorem lit_Known9_0 (W : World) : Calls Tryd.prog 6 #[.string ⟨#[45, 48, 46, 49, 48]⟩] W fun e w' => e = .returned (.tuple #[decV ⟨-1, 1⟩, .bool true]) ∧ More W w' := lit_of (read_c ⟨#[45, 48, 46, 49, 48]⟩ (by decide +kernel) W) (by kernel_rfl)
theorem lit_Known9_1 (W : World) : Calls Tryd.prog 6 #[.string ⟨#[48, 48, 55, 46, 48, 48, 48]⟩] W fun e w' => e = .returned (.tuple #[decV ⟨7, 0⟩, .bool true]) ∧ More W w' := lit_of (read_c ⟨#[48, 48, 55, 46, 48, 48, 48]⟩ (by decide +kernel) W) (by kernel_rfl)
theorem lit_Known9_2 (W : World) : Calls Tryd.prog 6 #[.string ⟨#[57, 57, 57, 57, 57, 46, 57, 57, 57, 57, 57, 57]⟩] W fun e w' => e = .returned (.tuple #[decV ⟨99999999999, 6⟩, .bool true]) ∧ More W w' := lit_of (read_c ⟨#[57, 57, 57, 57, 57, 46, 57, 57, 57, 57, 57, 57]⟩ (by decide +kernel) W) (by kernel_rfl)
theorem lit_Known9_3 (W : World) : Calls Tryd.prog 6 #[.string ⟨#[]⟩] W fun e w' => e = .returned (.tuple #[decV ⟨0, 0⟩, .bool false]) ∧ More W w' := lit_of (read_c ⟨#[]⟩ (by decide +kernel) W) (by kernel_rfl)
theorem lit_Known9_4 (W : World) : Calls Tryd.prog 6 #[.string ⟨#[45]⟩] W fun e w' => e = .returned (.tuple #[decV ⟨0, 0⟩, .bool false]) ∧ More W w' := lit_of (read_c ⟨#[45]⟩ (by decide +kernel) W) (by kernel_rfl)
theorem lit_Known9_5 (W : World) : Calls Tryd.prog 6 #[.string ⟨#[45, 48]⟩] W fun e w' => e = .returned (.tuple #[decV ⟨0, 0⟩, .bool false]) ∧ More W w' := lit_of (read_c ⟨#[45, 48]⟩ (by decide +kernel) W) (by kernel_rfl)
theorem lit_Known9_6 (W : World) : Calls Tryd.prog 6 #[.string ⟨#[49, 46]⟩] W fun e w' => e = .returned (.tuple #[decV ⟨0, 0⟩, .bool false]) ∧ More W w' := lit_of (read_c ⟨#[49, 46]⟩ (by decide +kernel) W) (by kernel_rfl)
theorem lit_Known9_7 (W : World) : Calls Tryd.prog 6 #[.string ⟨#[46, 53]⟩] W fun e w' => e = .returned (.tuple #[decV ⟨0, 0⟩, .bool false]) ∧ More W w' := lit_of (read_c ⟨#[46, 53]⟩ (by decide +kernel) W) (by kernel_rfl)
theorem lit_Known9_8 (W : World) : Calls Tryd.prog 6 #[.string ⟨#[49, 46, 48, 48, 48, 48, 48, 48, 48]⟩] W fun e w' => e = .returned (.tuple #[decV ⟨0, 0⟩, .bool false]) ∧ More W w' := lit_of (read_c ⟨#[49, 46, 48, 48, 48, 48, 48, 48, 48]⟩ (by decide +kernel) W) (by kernel_rfl)
theorem lit_Known9_9 (W : World) : Calls Tryd.prog 6 #[.string ⟨#[49, 48, 48, 48, 48, 48]⟩] W fun e w' => e = .returned (.tuple #[decV ⟨0, 0⟩, .bool false]) ∧ More W w' := lit_of (read_c ⟨#[49, 48, 48, 48, 48, 48]⟩ (by decide +kernel) W) (by kernel_rfl)
theorem lit_Known9_10 (W : World) : Calls Tryd.prog 6 #[.string ⟨#[43, 49]⟩] W fun e w' => e = .returned (.tuple #[decV ⟨0, 0⟩, .bool false]) ∧ More W w' := lit_of (read_c ⟨#[43, 49]⟩ (by decide +kernel) W) (by kernel_rfl)
theorem lit_Known9_11 (W : World) : Calls Tryd.prog 6 #[.string ⟨#[49, 101, 51]⟩] W fun e w' => e = .returned (.tuple #[decV ⟨0, 0⟩, .bool false]) ∧ More W w' := lit_of (read_c ⟨#[49, 101, 51]⟩ (by decide +kernel) W) (by kernel_rfl)
theorem lit_Known9_12 (W : World) : Calls Tryd.prog 6 #[.string ⟨#[49, 32]⟩] W fun e w' => e = .returned (.tuple #[decV ⟨0, 0⟩, .bool false]) ∧ More W w' := lit_of (read_c ⟨#[49, 32]⟩ (by decide +kernel) W) (by kernel_rfl)
theorem lit_Known9_13 (W : World) : Calls Tryd.prog 6 #[.string ⟨#[45, 48, 46, 48, 48]⟩] W fun e w' => e = .returned (.tuple #[decV ⟨0, 0⟩, .bool false]) ∧ More W w' := lit_of (read_c ⟨#[45, 48, 46, 48, 48]⟩ (by decide +kernel) W) (by kernel_rfl)
theorem lit_Known9_14 (W : World) : Calls Tryd.prog 6 #[.string ⟨#[48, 120, 49]⟩] W fun e w' => e = .returned (.tuple #[decV ⟨0, 0⟩, .bool false]) ∧ More W w' := lit_of (read_c ⟨#[48, 120, 49]⟩ (by decide +kernel) W) (by kernel_rfl)
theorem lit_Known9_15 (W : World) : Calls Tryd.prog 8 #[decV ⟨-1, 1⟩] W fun e w' => e = .returned (ivV ⟨-6554, -6553, false⟩) ∧ More W w' := lit_of (decIv_c ⟨-1, 1⟩ W) (by kernel_rfl)
theorem lit_Known9_16 (W : World) : Calls Tryd.prog 9 #[.int .i64 (-6554), .int .i64 (-6553)] W fun e w' => e = .returned (ivV ⟨-6554, -6553, false⟩) ∧ More W w' := lit_of (of_c (-6554) (-6553) W) (by kernel_rfl)
theorem lit_Known9_17 (W : World) : Calls Tryd.prog 8 #[decV ⟨99999999999, 6⟩] W fun e w' => e = .returned (ivV ⟨0, 0, true⟩) ∧ More W w' := lit_of (decIv_c ⟨99999999999, 6⟩ W) (by kernel_rfl)
theorem lit_Known9_18 (W : World) : Calls Tryd.prog 10 #[] W fun e w' => e = .returned (ivV ⟨0, 0, true⟩) ∧ More W w' := lit_of (none_c  W) (by kernel_rfl)
theorem lit_Known9_19 (W : World) : Calls Tryd.prog 12 #[decV ⟨1, 7⟩] W fun e w' => e = .returned (.bool false) ∧ More W w' := lit_of (decRight_c ⟨1, 7⟩ W) (by kernel_rfl)
theorem lit_Known9_20 (W : World) : Calls Tryd.prog 12 #[decV ⟨1, -1⟩] W fun e w' => e = .returned (.bool false) ∧ More W w' := lit_of (decRight_c ⟨1, -1⟩ W) (by kernel_rfl)
theorem lit_Known9_21 (W : World) : Calls Tryd.prog 12 #[decV ⟨0, 0⟩] W fun e w' => e = .returned (.bool true) ∧ More W w' := lit_of (decRight_c ⟨0, 0⟩ W) (by kernel_rfl)
theorem lit_Known9_22 (W : World) : Calls Tryd.prog 13 #[decV ⟨-1, 1⟩, decV ⟨7, 0⟩] W fun e w' => e = .returned (.bool true) ∧ More W w' := lit_of (decLess_c ⟨-1, 1⟩ ⟨7, 0⟩ W) (by kernel_rfl)
theorem lit_Known9_23 (W : World) : Calls Tryd.prog 13 #[decV ⟨7, 0⟩, decV ⟨7, 0⟩] W fun e w' => e = .returned (.bool false) ∧ More W w' := lit_of (decLess_c ⟨7, 0⟩ ⟨7, 0⟩ W) (by kernel_rfl)
theorem lit_Known9_24 (W : World) : Calls Tryd.prog 13 #[decV ⟨99, 2⟩, decV ⟨1, 0⟩] W fun e w' => e = .returned (.bool true) ∧ More W w' := lit_of (decLess_c ⟨99, 2⟩ ⟨1, 0⟩ W) (by kernel_rfl)
theorem lit_Known9_25 (W : World) : Calls Tryd.prog 13 #[decV ⟨1, 9⟩, decV ⟨7, 0⟩] W fun e w' => e = .returned (.bool false) ∧ More W w' := lit_of (decLess_c ⟨1, 9⟩ ⟨7, 0⟩ W) (by kernel_rfl)

theorem print_k0 (W : World) (ht : Tab W) : Calls Tryd.prog 11 #[decV ⟨99999999999, 6⟩] W fun e w' => e = .returned (.string (bsOf [57, 57, 57, 57, 57, 46, 57, 57, 57, 57, 57, 57])) ∧ More W w' := printF_c W _ ht _ (by kernel_rfl)
theorem print_k1 (W : World) (ht : Tab W) : Calls Tryd.prog 11 #[decV ⟨10, 1⟩] W fun e w' => e = .returned (.string (bsOf [])) ∧ More W w' := printF_c W _ ht _ (by kernel_rfl)
theorem print_k2 (W : World) (ht : Tab W) : Calls Tryd.prog 11 #[decV ⟨100000, 0⟩] W fun e w' => e = .returned (.string (bsOf [])) ∧ More W w' := printF_c W _ ht _ (by kernel_rfl)
theorem print_k3 (W : World) (ht : Tab W) : Calls Tryd.prog 11 #[decV ⟨-5, 3⟩] W fun e w' => e = .returned (.string (bsOf [45, 48, 46, 48, 48, 53])) ∧ More W w' := printF_c W _ ht _ (by kernel_rfl)

abbrev textsV : Value := .agg #[.string ⟨#[]⟩, .string ⟨#[45]⟩, .string ⟨#[45, 48]⟩, .string ⟨#[49, 46]⟩, .string ⟨#[46, 53]⟩, .string ⟨#[49, 46, 48, 48, 48, 48, 48, 48, 48]⟩, .string ⟨#[49, 48, 48, 48, 48, 48]⟩, .string ⟨#[43, 49]⟩, .string ⟨#[49, 101, 51]⟩, .string ⟨#[49, 32]⟩, .string ⟨#[45, 48, 46, 48, 48]⟩, .string ⟨#[48, 120, 49]⟩]
theorem textAt0 (w : World) : (Instr.index 26 textsV (.int .i64 0)).run Tryd.prog w = .ok (.string ⟨#[]⟩) w := by kernel_rfl
theorem textAt1 (w : World) : (Instr.index 26 textsV (.int .i64 1)).run Tryd.prog w = .ok (.string ⟨#[45]⟩) w := by kernel_rfl
theorem textAt2 (w : World) : (Instr.index 26 textsV (.int .i64 2)).run Tryd.prog w = .ok (.string ⟨#[45, 48]⟩) w := by kernel_rfl
theorem textAt3 (w : World) : (Instr.index 26 textsV (.int .i64 3)).run Tryd.prog w = .ok (.string ⟨#[49, 46]⟩) w := by kernel_rfl
theorem textAt4 (w : World) : (Instr.index 26 textsV (.int .i64 4)).run Tryd.prog w = .ok (.string ⟨#[46, 53]⟩) w := by kernel_rfl
theorem textAt5 (w : World) : (Instr.index 26 textsV (.int .i64 5)).run Tryd.prog w = .ok (.string ⟨#[49, 46, 48, 48, 48, 48, 48, 48, 48]⟩) w := by kernel_rfl
theorem textAt6 (w : World) : (Instr.index 26 textsV (.int .i64 6)).run Tryd.prog w = .ok (.string ⟨#[49, 48, 48, 48, 48, 48]⟩) w := by kernel_rfl
theorem textAt7 (w : World) : (Instr.index 26 textsV (.int .i64 7)).run Tryd.prog w = .ok (.string ⟨#[43, 49]⟩) w := by kernel_rfl
theorem textAt8 (w : World) : (Instr.index 26 textsV (.int .i64 8)).run Tryd.prog w = .ok (.string ⟨#[49, 101, 51]⟩) w := by kernel_rfl
theorem textAt9 (w : World) : (Instr.index 26 textsV (.int .i64 9)).run Tryd.prog w = .ok (.string ⟨#[49, 32]⟩) w := by kernel_rfl
theorem textAt10 (w : World) : (Instr.index 26 textsV (.int .i64 10)).run Tryd.prog w = .ok (.string ⟨#[45, 48, 46, 48, 48]⟩) w := by kernel_rfl
theorem textAt11 (w : World) : (Instr.index 26 textsV (.int .i64 11)).run Tryd.prog w = .ok (.string ⟨#[48, 120, 49]⟩) w := by kernel_rfl

end Go.Proofs.YthnehnabldgagaaDoor

