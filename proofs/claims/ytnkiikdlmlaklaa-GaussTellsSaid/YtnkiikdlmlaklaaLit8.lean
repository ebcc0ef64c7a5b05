/-
  The calls of chapter 8 at the known numbers of its example.
-/
import Derived.Test.YtnkiikdlmlaklaaBeam
import Derived.Test.YtnkiikdlmlaklaaCells
import Derived.Test.YtnkiikdlmlaklaaNumber
namespace Go.Proofs.Ytnkiikdlmlaklaa
set_option linter.unusedVariables false
open Go.ChangeShapes Go.WideShapes Go.ChangeAt Go.RowKit

theorem cast_q {P : Program} {f : FuncId} {x x' : Array Value} {W : World} {v v' : Value} (h : Calls P f x W fun e w' => e = .returned v ∧ W = w') (ha : x = x') (hv : v = v') : Calls P f x' W fun e w' => e = .returned v' ∧ W = w' := by subst ha hv; exact h
theorem cast_m {P : Program} {f : FuncId} {x x' : Array Value} {W : World} {v v' : Value} (h : Calls P f x W fun e w' => e = .returned v ∧ More W w') (ha : x = x') (hv : v = v') : Calls P f x' W fun e w' => e = .returned v' ∧ More W w' := by subst ha hv; exact h
theorem at_calls {P : Program} {f : FuncId} {x : Array Value} {Q : Ending → World → Prop} {w W : World} {R : World → Prop} (hm : More w W) (hr : R W) (h : ∀ W1, More w W1 → R W1 → Calls P f x W1 Q) : Calls P f x W Q := h W hm hr
@[go_sem] theorem equalIn_cx (a b c d : Nat) (w : World) : (Op.equalIn 9999 25 (.complex .f64 a b) (.complex .f64 c d)).run Try.prog w = .ok (Ieee.double.order a c == some .eq && Ieee.double.order b d == some .eq) w := by kernel_rfl
instance decNot (a b : Nat) : Decidable (OkNot a b) := by unfold OkNot; infer_instance

theorem k8_0 (W : World) : Calls Try.prog 11 #[.complex .f64 4613937818241073152 4616189618054758400, .int .i64 1] W fun e w' => e = .returned (.complex .f64 13839561654909534208 4613937818241073152) ∧ W = w' := cast_q (turn_c ⟨3, false, 4, false⟩ 1 (by decide) (by decide) (by decide) (by decide) W) (by kernel_rfl) (by kernel_rfl)

theorem k8_1 (W : World) : Calls Try.prog 11 #[.complex .f64 4613937818241073152 4616189618054758400, .int .i64 (-1)] W fun e w' => e = .returned (.complex .f64 4616189618054758400 13837309855095848960) ∧ W = w' := cast_q (turn_c ⟨3, false, 4, false⟩ (-1) (by decide) (by decide) (by decide) (by decide) W) (by kernel_rfl) (by kernel_rfl)

theorem k8_2 (W : World) : Calls Try.prog 11 #[.complex .f64 4613937818241073152 4616189618054758400, .int .i64 6] W fun e w' => e = .returned (.complex .f64 13837309855095848960 13839561654909534208) ∧ W = w' := cast_q (turn_c ⟨3, false, 4, false⟩ 6 (by decide) (by decide) (by decide) (by decide) W) (by kernel_rfl) (by kernel_rfl)

theorem k8_3 (W : World) : Calls Try.prog 12 #[.complex .f64 4613937818241073152 4616189618054758400] W fun e w' => e = .returned (.complex .f64 4613937818241073152 13839561654909534208) ∧ W = w' := cast_q (mirror_c ⟨3, false, 4, false⟩ (by decide) (by decide) (by decide) (by decide) W) (by kernel_rfl) (by kernel_rfl)

theorem k8_4 (W : World) : Calls Try.prog 13 #[.complex .f64 4613937818241073152 4616189618054758400] W fun e w' => e = .returned (.bool true) ∧ W = w' := cast_q (whole_x ⟨3, false, 4, false⟩ (by decide) (by decide) (by decide) (by decide) W) (by kernel_rfl) (by kernel_rfl)

theorem k8_5 (W : World) : Calls Try.prog 14 #[.complex .f64 4613937818241073152 4616189618054758400] W fun e w' => e = .returned (.int .i64 25) ∧ W = w' := cast_q (gnorm_c ⟨3, false, 4, false⟩ (by decide) (by decide) (by decide) (by decide) W) (by kernel_rfl) (by kernel_rfl)

theorem k8_6 (W : World) : Calls Try.prog 13 #[.complex .f64 4602678819172646912 0] W fun e w' => e = .returned (.bool false) ∧ W = w' := cast_q (whole_n ⟨4602678819172646912, 0⟩ (by decide +kernel) W) (by kernel_rfl) (by kernel_rfl)

theorem k8_7 (W : World) : Calls Try.prog 13 #[.complex .f64 4697254415642394624 0] W fun e w' => e = .returned (.bool false) ∧ W = w' := cast_q (whole_n ⟨4697254415642394624, 0⟩ (by decide +kernel) W) (by kernel_rfl) (by kernel_rfl)

theorem k8_8 (W : World) : Calls Try.prog 14 #[.complex .f64 4697254415642394624 0] W fun e w' => e = .returned (.int .i64 0) ∧ W = w' := cast_q (gnorm_n ⟨4697254415642394624, 0⟩ (by decide +kernel) W) (by kernel_rfl) (by kernel_rfl)

theorem k8_9 (W : World) : Calls Try.prog 12 #[.complex .f64 0 4602678819172646912] W fun e w' => e = .returned (.complex .f64 0 0) ∧ W = w' := cast_q (mirror_n ⟨0, 4602678819172646912⟩ (by decide +kernel) W) (by kernel_rfl) (by kernel_rfl)

theorem k8_10 (W : World) : Calls Try.prog 15 #[.complex .f64 0 0, .int .i64 2] W fun e w' => e = .returned (.int .i64 1) ∧ W = w' := cast_q (disc_c ⟨0, false, 0, false⟩ 2 (by decide) (by decide) (by decide) (by decide) W) (by kernel_rfl) (by kernel_rfl)

theorem k8_11 (W : World) : Calls Try.prog 15 #[.complex .f64 4607182418800017408 4607182418800017408, .int .i64 2] W fun e w' => e = .returned (.int .i64 0) ∧ W = w' := cast_q (disc_c ⟨1, false, 1, false⟩ 2 (by decide) (by decide) (by decide) (by decide) W) (by kernel_rfl) (by kernel_rfl)

theorem k8_12 (W : World) : Calls Try.prog 15 #[.complex .f64 4611686018427387904 0, .int .i64 2] W fun e w' => e = .returned (.int .i64 0) ∧ W = w' := cast_q (disc_c ⟨2, false, 0, false⟩ 2 (by decide) (by decide) (by decide) (by decide) W) (by kernel_rfl) (by kernel_rfl)

theorem k8_13 (W : World) : Calls Try.prog 15 #[.complex .f64 4611686018427387904 4607182418800017408, .int .i64 2] W fun e w' => e = .returned (.int .i64 2) ∧ W = w' := cast_q (disc_c ⟨2, false, 1, false⟩ 2 (by decide) (by decide) (by decide) (by decide) W) (by kernel_rfl) (by kernel_rfl)

theorem k8_14 (W : World) : Calls Try.prog 15 #[.complex .f64 4602678819172646912 0, .int .i64 2] W fun e w' => e = .returned (.int .i64 0) ∧ W = w' := cast_q (disc_n ⟨4602678819172646912, 0⟩ 2 (by decide +kernel) W) (by kernel_rfl) (by kernel_rfl)

theorem k8_15 (W : World) : Calls Try.prog 9 #[.agg #[.complex .f64 0 4607182418800017408, .complex .f64 4607182418800017408 0], .agg #[.int .i64 1, .int .i64 5, .int .i64 0, .int .i64 1]] W fun e w' => e = .returned (.tuple #[.agg #[.complex .f64 4617315517961601024 4607182418800017408, .complex .f64 4607182418800017408 0], .bool true]) ∧ More W w' := cast_m (carry_c ⟨⟨0, false, 1, false⟩, ⟨1, false, 0, false⟩⟩ ⟨1, 5, 0, 1⟩ (by decide) (by decide) (by decide) (by decide) (by decide) (by decide) (by decide) (by decide) W) (by kernel_rfl) (by kernel_rfl)

theorem k8_16 (W : World) : Calls Try.prog 9 #[.agg #[.complex .f64 0 0, .complex .f64 0 0], .agg #[.int .i64 1, .int .i64 0, .int .i64 0, .int .i64 1]] W fun e w' => e = .returned (.tuple #[.agg #[.complex .f64 0 0, .complex .f64 0 0], .bool false]) ∧ More W w' := cast_m (carry_c ⟨⟨0, false, 0, false⟩, ⟨0, false, 0, false⟩⟩ ⟨1, 0, 0, 1⟩ (by decide) (by decide) (by decide) (by decide) (by decide) (by decide) (by decide) (by decide) W) (by kernel_rfl) (by kernel_rfl)

theorem k8_17 (W : World) : Calls Try.prog 9 #[.agg #[.complex .f64 4607182418800017408 0, .complex .f64 4607182418800017408 0], .agg #[.int .i64 1, .int .i64 (-1), .int .i64 2, .int .i64 (-2)]] W fun e w' => e = .returned (.tuple #[.agg #[.complex .f64 0 0, .complex .f64 0 0], .bool false]) ∧ More W w' := cast_m (carry_c ⟨⟨1, false, 0, false⟩, ⟨1, false, 0, false⟩⟩ ⟨1, (-1), 2, (-2)⟩ (by decide) (by decide) (by decide) (by decide) (by decide) (by decide) (by decide) (by decide) W) (by kernel_rfl) (by kernel_rfl)

theorem k8_18 (W : World) : Calls Try.prog 9 #[.agg #[.complex .f64 4692750811720056832 0, .complex .f64 4607182418800017408 0], .agg #[.int .i64 4, .int .i64 0, .int .i64 0, .int .i64 1]] W fun e w' => e = .returned (.tuple #[.agg #[.complex .f64 0 0, .complex .f64 0 0], .bool false]) ∧ More W w' := cast_m (carry_c ⟨⟨524288, false, 0, false⟩, ⟨1, false, 0, false⟩⟩ ⟨4, 0, 0, 1⟩ (by decide) (by decide) (by decide) (by decide) (by decide) (by decide) (by decide) (by decide) W) (by kernel_rfl) (by kernel_rfl)

theorem k8_19 (W : World) : Calls Try.prog 16 #[.agg #[.complex .f64 0 4611686018427387904, .complex .f64 4611686018427387904 0], .agg #[.complex .f64 0 4607182418800017408, .complex .f64 4607182418800017408 0]] W fun e w' => e = .returned (.bool true) ∧ More W w' := cast_m (same_b ⟨⟨0, false, 2, false⟩, ⟨2, false, 0, false⟩⟩ ⟨⟨0, false, 1, false⟩, ⟨1, false, 0, false⟩⟩ (by decide) (by decide) (by decide) (by decide) (by decide) (by decide) (by decide) (by decide) (by decide) (by decide) (by decide) (by decide) (by decide) (by decide) (by decide) (by decide) W) (by kernel_rfl) (by kernel_rfl)

theorem k8_20 (W : World) : Calls Try.prog 16 #[.agg #[.complex .f64 0 0, .complex .f64 0 0], .agg #[.complex .f64 0 0, .complex .f64 0 0]] W fun e w' => e = .returned (.bool false) ∧ More W w' := cast_m (same_b ⟨⟨0, false, 0, false⟩, ⟨0, false, 0, false⟩⟩ ⟨⟨0, false, 0, false⟩, ⟨0, false, 0, false⟩⟩ (by decide) (by decide) (by decide) (by decide) (by decide) (by decide) (by decide) (by decide) (by decide) (by decide) (by decide) (by decide) (by decide) (by decide) (by decide) (by decide) W) (by kernel_rfl) (by kernel_rfl)

theorem ord_0 : (Ieee.double.order 0 0 == some .eq) = true := by decide +kernel
theorem ord_1 : (Ieee.double.order 4607182418800017408 4607182418800017408 == some .eq) = true := by decide +kernel
theorem ord_2 : (Ieee.double.order 4613937818241073152 4613937818241073152 == some .eq) = true := by decide +kernel
theorem ord_3 : (Ieee.double.order 4616189618054758400 4616189618054758400 == some .eq) = true := by decide +kernel
theorem ord_4 : (Ieee.double.order 4617315517961601024 4617315517961601024 == some .eq) = true := by decide +kernel
theorem ord_5 : (Ieee.double.order 13830554455654793216 13830554455654793216 == some .eq) = true := by decide +kernel
theorem ord_6 : (Ieee.double.order 13837309855095848960 13837309855095848960 == some .eq) = true := by decide +kernel
theorem ord_7 : (Ieee.double.order 13839561654909534208 13839561654909534208 == some .eq) = true := by decide +kernel

/-- What 0 / 0 gives: a NaN, whose bits are drawn. -/
def nanw (w : World) : Nat := (Question.nanBits .f64 0 0).cut (w.tape w.drawn (.nanBits .f64 0 0))
theorem run_nan {P : Program} (T : TypeId) (w : World) : (binOp .quo T (.float .f64 0) (.float .f64 0)).run P w = .ok (.float .f64 (nanw w)) w.drew := by
  have h : Ieee.double.div 0 0 = none := by decide +kernel
  have h' : FloatKind.f64.format.div 0 0 = none := h
  simp [binOp, Op.floatArith, h']
  exact rfl
theorem not_nan (w : World) (b : Nat) : OkNot (nanw w) b := by
  have h : wp (nanw w) = false := by
    unfold wp
    have : inLo (nanw w) = false := by
      obtain ⟨t, ht⟩ : ∃ t, nanw w = (t % 2) * 9223372036854775808 + 9218868437227405312 + 1 + (t / 2) % 4503599627370495 := ⟨_, rfl⟩
      have hr : ∃ s f, Ieee.double.read (nanw w) = .nan s f := by
        rw [ht]
        unfold Ieee.Format.read
        dsimp only
        rw [sign_d, binade_d, inf_d]
        have e : ((t % 2) * 9223372036854775808 + 9218868437227405312 + 1 + (t / 2) % 4503599627370495) % 9223372036854775808 = 9218868437227405312 + 1 + (t / 2) % 4503599627370495 := by omega
        rw [e, if_neg (by omega), if_neg (by omega), if_neg (by omega)]
        exact ⟨_, _, rfl⟩
      obtain ⟨s, f, hr⟩ := hr
      unfold inLo Ieee.Format.order
      rw [hr]
      cases Ieee.double.read 13920626448202203136 <;> rfl
    rw [this]
    rfl
  unfold OkNot
  rw [h]
  rfl
theorem k8_nan1 {w : World} (W : World) : Calls Try.prog 13 #[.complex .f64 (nanw w) 4607182418800017408] W fun e w' => e = .returned (.bool false) ∧ W = w' := whole_n ⟨_, _⟩ (not_nan w _) W
theorem k8_nan2 {w : World} (W : World) : Calls Try.prog 11 #[.complex .f64 (nanw w) 4607182418800017408, .int .i64 1] W fun e w' => e = .returned (.complex .f64 0 0) ∧ W = w' := cast_q (turn_n ⟨_, _⟩ 1 (not_nan w _) W) rfl (by kernel_rfl)

theorem cells1_c (W : World) : Calls Try.prog 8 #[.int .i64 1] W fun e w' => ∃ b o c, e = .returned (.slice (some ⟨b, o, none⟩) 4 c) ∧ More W w' ∧ b < w'.heap.size ∧ w'.cell? ⟨b, o, none⟩ = some (.complex .f64 13830554455654793216 13830554455654793216) ∧ w'.cell? ⟨b, o + 1, none⟩ = some (.complex .f64 0 13830554455654793216) ∧ w'.cell? ⟨b, o + 2, none⟩ = some (.complex .f64 13830554455654793216 0) ∧ w'.cell? ⟨b, o + 3, none⟩ = some (.complex .f64 0 0) := by
  refine (cells_c 1 W).mono ?_
  rintro e w' ⟨v', rfl, hm, hr⟩
  obtain ⟨ao, c, rfl, hc⟩ := crow_form hr
  rw [cellsTo_length] at hc
  obtain ⟨b, o, rfl, hd⟩ := hc (by decide)
  clear hc
  have h4 : (clampI 1 16).toNat = 1 := rfl
  rw [h4] at hd ⊢
  rw [cellsTo_length] at ⊢
  obtain ⟨hb, e0⟩ := hd 0 (by decide)
  obtain ⟨-, e1⟩ := hd 1 (by decide)
  obtain ⟨-, e2⟩ := hd 2 (by decide)
  obtain ⟨-, e3⟩ := hd 3 (by decide)
  refine ⟨b, o, c, rfl, hm, hb, ?_, ?_, ?_, ?_⟩
  · rw [Nat.add_zero] at e0; exact e0.trans (congrArg some (by kernel_rfl))
  · exact e1.trans (congrArg some (by kernel_rfl))
  · exact e2.trans (congrArg some (by kernel_rfl))
  · exact e3.trans (congrArg some (by kernel_rfl))

end Go.Proofs.Ytnkiikdlmlaklaa

