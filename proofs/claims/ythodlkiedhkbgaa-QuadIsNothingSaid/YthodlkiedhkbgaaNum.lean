/-
  The contracts of package num, and of the plain saying of chapter 1.
-/
import Derived.Test.YthodlkiedhkbgaaRows
import Derived.Test.YthodlkiedhkbgaaMath
import Derived.WalkKit
import Derived.ProofKit
import Derived.OpenShut
import Derived.Outline
import Derived.Lib.Hide
namespace Go.Proofs.Ythodlkiedhkbgaa
set_option linter.unusedVariables false
open Go.ChangeShapes Go.WideShapes Go.ChangeAt Go.RowKit

theorem ret_int {k : IntKind} {a b : Int} (h : a = b) : Ending.returned (.int k a) = .returned (.int k b) := by rw [h]

set_option maxHeartbeats 4000000 in
theorem floor_c (a b : Int) (ha : -9223372036854775808 ≤ a) (ha' : a ≤ 9223372036854775807) (hn : ¬ (a = -9223372036854775808 ∧ b = -1)) (W : World) :
    Calls Try.prog 53 #[.int .i64 a, .int .i64 b] W fun e w' => e = .returned (.int .i64 (a.fdiv b)) ∧ W = w' := by
  have hb := tdiv_bd a b ha ha' hn
  clear hn
  by_cases h0 : b = 0
  · subst h0
    go_enter Try.func53, Try.ntmps53
    go_wp2_with fail
    go_ret
    exact ⟨ret_int (by simp), rfl⟩
  · have hf := fdiv_of a b h0
    by_cases hr : a.tmod b = 0
    · rw [if_neg (by simp [hr])] at hf
      rw [hf]
      clear hf
      go_enter Try.func53, Try.ntmps53
      go_wp2_with fail
      go_ret
      exact ⟨rfl, rfl⟩
    · have hb2 := tdiv_bd2 a b ha ha' hr
      have hr2 : 0 ≤ a → ¬ a % b = 0 := fun h => by rw [← Int.tmod_eq_emod_of_nonneg h]; exact hr
      by_cases h1 : a < 0 <;> by_cases h2 : b < 0
      all_goals
        first
        | (rw [if_neg (fun h => h.2 (by omega))] at hf)
        | (rw [if_pos ⟨hr, by omega⟩] at hf)
        rw [hf]
        clear hf
        first
        | (have hr3 := hr2 (by omega); clear hr2)
        | clear hr2
        go_enter Try.func53, Try.ntmps53
        go_wp2_with fail
        go_ret
        exact ⟨rfl, rfl⟩

set_option maxHeartbeats 4000000 in
theorem in_c (n : Int) (W : World) :
    Calls Try.prog 31 #[.int .i64 n] W fun e w' => e = .returned (.bool (isIn n)) ∧ W = w' := by
  by_cases h1 : -1073741824 ≤ n <;> by_cases h2 : n ≤ 1073741824
  all_goals
    go_enter Try.func31, Try.ntmps31
    go_wp2_with fail
    go_ret
    exact ⟨by simp [isIn, h1, h2], rfl⟩

set_option maxHeartbeats 4000000 in
theorem number_c (n : Int) (W : World) :
    Calls Try.prog 54 #[.int .i64 n] W fun e w' => e = .returned (.tuple #[.int .i64 (told n).1, .bool (told n).2]) ∧ W = w' := by
  by_cases h1 : isIn n = true
  all_goals
    go_enter Try.func54, Try.ntmps54
    go_wp2_with (first | (go_at_call 31; (with_reducible refine (in_c _ _).mono ?_); rintro e w' ⟨rfl, rfl⟩))
    go_ret2
    exact ⟨by simp [told, h1], rfl⟩


set_option maxHeartbeats 4000000 in
theorem quotient_c (a b : Int) (up : Bool) (ha : -4611686018427387904 ≤ a) (ha' : a ≤ 4611686018427387904) (W : World) :
    Calls Try.prog 55 #[.int .i64 a, .int .i64 b, .bool up] W fun e w' => e = .returned (.int .i64 (quo a b up)) ∧ W = w' := by
  have hq : -4611686018427387904 ≤ (-a).fdiv b ∧ (-a).fdiv b ≤ 4611686018427387904 := by have := fdiv_abs (-a) b; omega
  cases up
  all_goals
    go_enter Try.func55, Try.ntmps55
    go_wp2_with (first | (go_at_call 53; (with_reducible refine (floor_c _ _ (by omega) (by omega) (by omega) _).mono ?_); rintro e w' ⟨rfl, rfl⟩))
    go_ret
    exact ⟨ret_int (by simp [quo]), rfl⟩

set_option maxHeartbeats 4000000 in
theorem div_c (a b : Int) (up : Bool) (W : World) :
    Calls Try.prog 46 #[.int .i64 a, .int .i64 b, .bool up] W fun e w' => e = .returned (.tuple #[.int .i64 (divN a b up).1, .bool (divN a b up).2]) ∧ W = w' := by
  by_cases ha : isIn a = true <;> by_cases hb : isIn b = true <;> by_cases h0 : (b == 0) = true
  case neg =>
    have h1 := isIn_iff.1 ha
    have e : divN a b up = told (quo (a * 65536) b up) := by simp only [divN, ha, hb, h0]; rfl
    rw [e]
    clear e
    go_enter Try.func46, Try.ntmps46
    go_wp2_with (first | (go_at_call 31; (with_reducible refine (in_c _ _).mono ?_); rintro e w' ⟨rfl, rfl⟩) | (go_at_call 54; (with_reducible refine (number_c _ _).mono ?_); rintro e w' ⟨rfl, rfl⟩) | (go_at_call 55; (with_reducible refine (quotient_c _ _ _ (by omega) (by omega) _).mono ?_); rintro e w' ⟨rfl, rfl⟩))
    go_ret2
    exact ⟨rfl, rfl⟩
  all_goals
    have e : divN a b up = (0, false) := by simp only [divN, ha, hb, h0]; rfl
    rw [e]
    clear e
    go_enter Try.func46, Try.ntmps46
    go_wp2_with (first | (go_at_call 31; (with_reducible refine (in_c _ _).mono ?_); rintro e w' ⟨rfl, rfl⟩) | (go_at_call 54; (with_reducible refine (number_c _ _).mono ?_); rintro e w' ⟨rfl, rfl⟩) | (go_at_call 55; (with_reducible refine (quotient_c _ _ _ (by omega) (by omega) _).mono ?_); rintro e w' ⟨rfl, rfl⟩))
    go_ret2
    exact ⟨rfl, rfl⟩

set_option maxHeartbeats 4000000 in
theorem floorRoot_c (n : Int) (h0 : 0 ≤ n) (W : World) :
    Calls Try.prog 56 #[.int .i64 n] W fun e w' => e = .returned (.int .i64 (flRoot n)) ∧ W = w' := by
  go_enter Try.func56, Try.ntmps56
  go_wp2_with fail
  go_loop [3, 4] (fun r b => ∃ (k : Nat) (x : Int), k ≤ 24 ∧ b = .int .i64 (bitv k) ∧ r = .int .i64 x ∧ 0 ≤ x ∧ x + 2 * bitv k ≤ 16777216 ∧ rootGo n k x = flRoot n) (fun _ b => (intOf b).toNat)
  case atStart => exact ⟨24, 0, by omega, rfl, rfl, by omega, by decide, rfl⟩
  case round =>
    obtain ⟨k, x, hk, rfl, rfl, hx, hx2, hg⟩ := hrel
    cases k with
    | zero =>
      have hb : bitv 0 = 0 := rfl
      rw [hb]
      go_wp2
      go_ret
      exact ⟨ret_int hg, rfl⟩
    | succ k =>
      have b1 := bitv_pos k
      have b2 := bitv_le k (by omega)
      have b3 := bitv_half k
      have b4 := mul_bd (a := x + bitv (k + 1)) (b := x + bitv (k + 1)) (A := 16777216) (B := 16777216) (by omega) (by omega)
      rw [rootGo_succ] at hg
      generalize bitv (k + 1) = c at *
      have HB := Lib.hid b3
      clear b3
      have HG := Lib.hid hg
      clear hg
      by_cases hc : (x + c) * (x + c) ≤ n
      · go_wp2
        go_round
        case rel => 
          exact ⟨k, x + c, by omega, by rw [← HB.out], rfl, by omega, by have := HB.out; omega, by have := HG.out; rw [if_pos hc] at this; exact this⟩
        case measure => simp [intOf]; omega
      · go_wp2
        go_round
        case rel => exact ⟨k, x, by omega, by rw [← HB.out], rfl, by omega, by have := HB.out; omega, by have := HG.out; rw [if_neg hc] at this; exact this⟩
        case measure => simp [intOf]; omega


set_option maxHeartbeats 4000000 in
theorem root_c (a : Int) (up : Bool) (W : World) :
    Calls Try.prog 47 #[.int .i64 a, .bool up] W fun e w' => e = .returned (.tuple #[.int .i64 (rootN a up).1, .bool (rootN a up).2]) ∧ W = w' := by
  by_cases ha : isIn a = true <;> by_cases h0 : a < 0
  case neg =>
    have h1 := isIn_iff.1 ha
    have ⟨b1, b2⟩ := in_root ha h0
    have b3 := mul_bd (a := flRoot (a * 65536)) (b := flRoot (a * 65536)) (A := 8388608) (B := 8388608) (by omega) (by omega)
    have b4 := flRoot_bd (a * 65536) (by omega) (by omega)
    have e : rootN a up = told (upRoot (a * 65536) up) := by simp [rootN, ha, h0]
    rw [e]
    clear e
    cases up
    · have e : upRoot (a * 65536) false = flRoot (a * 65536) := by simp [upRoot]
      rw [e]
      clear e
      go_enter Try.func47, Try.ntmps47
      go_wp2_with (first | (go_at_call 31; (with_reducible refine (in_c _ _).mono ?_); rintro e w' ⟨rfl, rfl⟩) | (go_at_call 54; (with_reducible refine (number_c _ _).mono ?_); rintro e w' ⟨rfl, rfl⟩) | (go_at_call 56; (with_reducible refine (floorRoot_c _ (by omega) _).mono ?_); rintro e w' ⟨rfl, rfl⟩))
      go_ret2
      exact ⟨rfl, rfl⟩
    · by_cases hr : flRoot (a * 65536) * flRoot (a * 65536) < a * 65536
      · have e : upRoot (a * 65536) true = flRoot (a * 65536) + 1 := by
          rw [upRoot, if_pos]; simp; omega
        rw [e]
        clear e
        go_enter Try.func47, Try.ntmps47
        go_wp2_with (first | (go_at_call 31; (with_reducible refine (in_c _ _).mono ?_); rintro e w' ⟨rfl, rfl⟩) | (go_at_call 54; (with_reducible refine (number_c _ _).mono ?_); rintro e w' ⟨rfl, rfl⟩) | (go_at_call 56; (with_reducible refine (floorRoot_c _ (by omega) _).mono ?_); rintro e w' ⟨rfl, rfl⟩))
        go_ret2
        exact ⟨rfl, rfl⟩
      · have e : upRoot (a * 65536) true = flRoot (a * 65536) := by
          rw [upRoot, if_neg]; simp; omega
        rw [e]
        clear e
        go_enter Try.func47, Try.ntmps47
        go_wp2_with (first | (go_at_call 31; (with_reducible refine (in_c _ _).mono ?_); rintro e w' ⟨rfl, rfl⟩) | (go_at_call 54; (with_reducible refine (number_c _ _).mono ?_); rintro e w' ⟨rfl, rfl⟩) | (go_at_call 56; (with_reducible refine (floorRoot_c _ (by omega) _).mono ?_); rintro e w' ⟨rfl, rfl⟩))
        go_ret2
        exact ⟨rfl, rfl⟩
  all_goals
    have e : rootN a up = (0, false) := by simp [rootN, ha, h0]
    rw [e]
    clear e
    go_enter Try.func47, Try.ntmps47
    go_wp2_with (first | (go_at_call 31; (with_reducible refine (in_c _ _).mono ?_); rintro e w' ⟨rfl, rfl⟩) | (go_at_call 54; (with_reducible refine (number_c _ _).mono ?_); rintro e w' ⟨rfl, rfl⟩) | (go_at_call 56; (with_reducible refine (floorRoot_c _ (by omega) _).mono ?_); rintro e w' ⟨rfl, rfl⟩))
    go_ret2
    exact ⟨rfl, rfl⟩

end Go.Proofs.Ythodlkiedhkbgaa

