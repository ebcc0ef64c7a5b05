/-
  The contracts of what the statements of chapter 1 lean on: the plain saying of the chapter, and the numbers that are handed in.
-/
import Derived.Test.YthnehnabldgagaaDoorNum
namespace Go.Proofs.YthnehnabldgagaaDoor
set_option linter.unusedVariables false
open Go.ChangeShapes Go.WideShapes Go.ChangeAt Go.RowKit

set_option maxHeartbeats 4000000 in
theorem rin_c (n : Int) (W : World) :
    Calls Tryd.prog 63 #[.int .i64 n] W fun e w' => e = .returned (.bool (isIn n)) ∧ W = w' := by
  by_cases h1 : -1073741824 ≤ n <;> by_cases h2 : n ≤ 1073741824
  all_goals
    go_enter Tryd.func63, Tryd.ntmps63
    go_wp2_with fail
    go_ret
    exact ⟨by simp [isIn, h1, h2], rfl⟩

set_option maxHeartbeats 4000000 in
theorem rfloor_c (a b : Int) (ha : -9223372036854775808 ≤ a) (ha' : a ≤ 9223372036854775807) (hn : ¬ (a = -9223372036854775808 ∧ b = -1)) (W : World) :
    Calls Tryd.prog 36 #[.int .i64 a, .int .i64 b] W fun e w' => e = .returned (.int .i64 (a.fdiv b)) ∧ W = w' := by
  have hb := tdiv_bd a b ha ha' hn
  clear hn
  by_cases h0 : b = 0
  · subst h0
    go_enter Tryd.func36, Tryd.ntmps36
    go_wp2_with fail
    go_ret
    exact ⟨ret_int (by simp), rfl⟩
  · have hf := fdiv_of a b h0
    by_cases hr : a.tmod b = 0
    · rw [if_neg (by simp [hr])] at hf
      rw [hf]
      clear hf
      go_enter Tryd.func36, Tryd.ntmps36
      go_wp2_with fail
      go_ret
      exact ⟨rfl, rfl⟩
    · have hb2 := tdiv_bd2 a b ha ha' hr
      have hr2 : 0 ≤ a → ¬ a % b = 0 := fun h => by rw [← Int.tmod_eq_emod_of_nonneg h]; exact hr
      have hs : 0 ≤ a → ¬ a % b < 0 := fun h => by have := Int.emod_nonneg a h0; omega
      have hs1 : a < 0 → a.tmod b < 0 := fun h => by
        have h1 : a.tmod b = -((-a).tmod b) := by rw [Int.neg_tmod]; omega
        have h2 := Int.tmod_nonneg b (show 0 ≤ -a by omega)
        omega
      by_cases h1 : a < 0 <;> by_cases h2 : b < 0
      all_goals
        first
        | (rw [if_neg (fun h => h.2 (by omega))] at hf)
        | (rw [if_pos ⟨hr, by omega⟩] at hf)
        rw [hf]
        clear hf
        first
        | (have hr3 := hr2 (by omega); have hs3 := hs (by omega))
        | have hs3 := hs1 (by omega)
        clear hr2 hs hs1
        go_enter Tryd.func36, Tryd.ntmps36
        go_wp2_with fail
        go_ret
        exact ⟨rfl, rfl⟩


set_option maxHeartbeats 4000000 in
theorem rceil_c (a b : Int) (ha : -1152921504606846976 ≤ a ∧ a ≤ 1152921504606846976) (hb : -1152921504606846976 ≤ b ∧ b ≤ 1152921504606846976) (h0 : b ≠ 0) (W : World) :
    Calls Tryd.prog 37 #[.int .i64 a, .int .i64 b] W fun e w' => e = .returned (.int .i64 (-((-a).fdiv b))) ∧ W = w' := by
  rw [ceil_eq a b h0]
  have h1 := fdiv_abs a b
  have h2 := fdiv_mul_bd a b ha hb
  by_cases hc : a.fdiv b * b = a
  · rw [if_pos hc]
    have HC := Lib.hid hc
    have hd : ((a.fdiv b * b) == a) = true := by simp [hc]
    clear hc
    go_enter Tryd.func37, Tryd.ntmps37
    go_wp2_with (first | (go_at_call 36; (with_reducible refine (rfloor_c _ _ (by omega) (by omega) (by omega) _).mono ?_); rintro e w' ⟨rfl, rfl⟩))
    go_ret
    exact ⟨rfl, rfl⟩
  · rw [if_neg hc]
    go_enter Tryd.func37, Tryd.ntmps37
    go_wp2_with (first | (go_at_call 36; (with_reducible refine (rfloor_c _ _ (by omega) (by omega) (by omega) _).mono ?_); rintro e w' ⟨rfl, rfl⟩))
    go_ret
    exact ⟨rfl, rfl⟩

end Go.Proofs.YthnehnabldgagaaDoor

