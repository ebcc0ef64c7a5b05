/-
  The contracts of package num, and of the plain saying of chapter 1.
  The contracts of package iv: each call answers what the plain interval of the same name is, and makes no more than memory of its own.
  Slices of intervals: which intervals a slice's cells hold in a world; sums of powers and slopes, in plain numbers.
  A slice of numbers among the arguments; a row that the call itself makes and appends to, told apart from others.
  Whole numbers as floating-point numbers of 64 bits, in which they are exact: what a word of a whole number reads, what sums, products, comparisons of such give.
  Words of whole numbers with a 0 of either sign; what a number is that is its own whole part; operations on complex numbers of such parts, as the walk meets them.
  The contracts of the numbers that are handed in: any number as a number of steps.
  The calls of package gauss, at whole numbers and at those that are none.
-/
import Derived.Test.YtekhhekkepijoaaGreatDoorRows
import Derived.Test.YtekhhekkepijoaaGreatDoorGa
import Derived.WalkKit
import Derived.ProofKit
import Derived.OpenShut
import Derived.Outline
import Derived.Lib.Hide
import Derived.Test.YtekhhekkepijoaaGreatDoorGb
import Derived.ArgAppend
import Derived.Carry
import Derived.Laws.FloatArith
import Derived.Laws.ComplexArith
import Derived.Laws.Cover2
import Derived.Laws.Cover3
import Derived.Laws.Externs
import Derived.WalkLawsBesides

namespace Go.Proofs.YtekhhekkepijoaaGreatDoor
set_option linter.unusedVariables false
open Go.ChangeShapes Go.WideShapes Go.ChangeAt Go.RowKit

theorem ret_int {k : IntKind} {a b : Int} (h : a = b) : Ending.returned (.int k a) = .returned (.int k b) := by rw [h]

set_option maxHeartbeats 4000000 in
theorem floor_c (a b : Int) (ha : -9223372036854775808 ≤ a) (ha' : a ≤ 9223372036854775807) (hn : ¬ (a = -9223372036854775808 ∧ b = -1)) (W : World) :
    Calls Tryz.prog 63 #[.int .i64 a, .int .i64 b] W fun e w' => e = .returned (.int .i64 (a.fdiv b)) ∧ W = w' := by
  have hb := tdiv_bd a b ha ha' hn
  clear hn
  by_cases h0 : b = 0
  · subst h0
    go_enter Tryz.func63, Tryz.ntmps63
    go_wp2_with fail
    go_ret
    exact ⟨ret_int (by simp), rfl⟩
  · have hf := fdiv_of a b h0
    by_cases hr : a.tmod b = 0
    · rw [if_neg (by simp [hr])] at hf
      rw [hf]
      clear hf
      go_enter Tryz.func63, Tryz.ntmps63
      go_wp2_with fail
      go_ret
      exact ⟨rfl, rfl⟩
    · have hb2 := tdiv_bd2 a b ha ha' hr
      have hr2 : 0 ≤ a → ¬ a % b = 0 := fun h => by rw [← Int.tmod_eq_emod_of_nonneg h]; exact hr
      by_cases h1 : a < 0 <;> by_cases h2 : b < 0
      all_goals
        first
        | (rw [if_neg (fun h => h.2 (by omega))] at hf)
        | (rw [if_pos ⟨hr, by omega⟩] at hf)
        rw [hf]
        clear hf
        first
        | (have hr3 := hr2 (by omega); clear hr2)
        | clear hr2
        go_enter Tryz.func63, Tryz.ntmps63
        go_wp2_with fail
        go_ret
        exact ⟨rfl, rfl⟩

set_option maxHeartbeats 4000000 in
theorem in_c (n : Int) (W : World) :
    Calls Tryz.prog 38 #[.int .i64 n] W fun e w' => e = .returned (.bool (isIn n)) ∧ W = w' := by
  by_cases h1 : -1073741824 ≤ n <;> by_cases h2 : n ≤ 1073741824
  all_goals
    go_enter Tryz.func38, Tryz.ntmps38
    go_wp2_with fail
    go_ret
    exact ⟨by simp [isIn, h1, h2], rfl⟩

set_option maxHeartbeats 4000000 in
theorem number_c (n : Int) (W : World) :
    Calls Tryz.prog 70 #[.int .i64 n] W fun e w' => e = .returned (.tuple #[.int .i64 (told n).1, .bool (told n).2]) ∧ W = w' := by
  by_cases h1 : isIn n = true
  all_goals
    go_enter Tryz.func70, Tryz.ntmps70
    go_wp2_with (first | (go_at_call 38; (with_reducible refine (in_c _ _).mono ?_); rintro e w' ⟨rfl, rfl⟩))
    go_ret2
    exact ⟨by simp [told, h1], rfl⟩


set_option maxHeartbeats 4000000 in
theorem quotient_c (a b : Int) (up : Bool) (ha : -4611686018427387904 ≤ a) (ha' : a ≤ 4611686018427387904) (W : World) :
    Calls Tryz.prog 71 #[.int .i64 a, .int .i64 b, .bool up] W fun e w' => e = .returned (.int .i64 (quo a b up)) ∧ W = w' := by
  have hq : -4611686018427387904 ≤ (-a).fdiv b ∧ (-a).fdiv b ≤ 4611686018427387904 := by have := fdiv_abs (-a) b; omega
  cases up
  all_goals
    go_enter Tryz.func71, Tryz.ntmps71
    go_wp2_with (first | (go_at_call 63; (with_reducible refine (floor_c _ _ (by omega) (by omega) (by omega) _).mono ?_); rintro e w' ⟨rfl, rfl⟩))
    go_ret
    exact ⟨ret_int (by simp [quo]), rfl⟩

set_option maxHeartbeats 4000000 in
theorem div_c (a b : Int) (up : Bool) (W : World) :
    Calls Tryz.prog 37 #[.int .i64 a, .int .i64 b, .bool up] W fun e w' => e = .returned (.tuple #[.int .i64 (divN a b up).1, .bool (divN a b up).2]) ∧ W = w' := by
  by_cases ha : isIn a = true <;> by_cases hb : isIn b = true <;> by_cases h0 : (b == 0) = true
  case neg =>
    have h1 := isIn_iff.1 ha
    have e : divN a b up = told (quo (a * 65536) b up) := by simp only [divN, ha, hb, h0]; rfl
    rw [e]
    clear e
    go_enter Tryz.func37, Tryz.ntmps37
    go_wp2_with (first | (go_at_call 38; (with_reducible refine (in_c _ _).mono ?_); rintro e w' ⟨rfl, rfl⟩) | (go_at_call 70; (with_reducible refine (number_c _ _).mono ?_); rintro e w' ⟨rfl, rfl⟩) | (go_at_call 71; (with_reducible refine (quotient_c _ _ _ (by omega) (by omega) _).mono ?_); rintro e w' ⟨rfl, rfl⟩))
    go_ret2
    exact ⟨rfl, rfl⟩
  all_goals
    have e : divN a b up = (0, false) := by simp only [divN, ha, hb, h0]; rfl
    rw [e]
    clear e
    go_enter Tryz.func37, Tryz.ntmps37
    go_wp2_with (first | (go_at_call 38; (with_reducible refine (in_c _ _).mono ?_); rintro e w' ⟨rfl, rfl⟩) | (go_at_call 70; (with_reducible refine (number_c _ _).mono ?_); rintro e w' ⟨rfl, rfl⟩) | (go_at_call 71; (with_reducible refine (quotient_c _ _ _ (by omega) (by omega) _).mono ?_); rintro e w' ⟨rfl, rfl⟩))
    go_ret2
    exact ⟨rfl, rfl⟩

set_option maxHeartbeats 4000000 in
theorem floorRoot_c (n : Int) (h0 : 0 ≤ n) (W : World) :
    Calls Tryz.prog 88 #[.int .i64 n] W fun e w' => e = .returned (.int .i64 (flRoot n)) ∧ W = w' := by
  go_enter Tryz.func88, Tryz.ntmps88
  go_wp2_with fail
  go_loop [3, 4] (fun r b => ∃ (k : Nat) (x : Int), k ≤ 24 ∧ b = .int .i64 (bitv k) ∧ r = .int .i64 x ∧ 0 ≤ x ∧ x + 2 * bitv k ≤ 16777216 ∧ rootGo n k x = flRoot n) (fun _ b => (intOf b).toNat)
  case atStart => exact ⟨24, 0, by omega, rfl, rfl, by omega, by decide, rfl⟩
  case round =>
    obtain ⟨k, x, hk, rfl, rfl, hx, hx2, hg⟩ := hrel
    cases k with
    | zero =>
      have hb : bitv 0 = 0 := rfl
      rw [hb]
      go_wp2
      go_ret
      exact ⟨ret_int hg, rfl⟩
    | succ k =>
      have b1 := bitv_pos k
      have b2 := bitv_le k (by omega)
      have b3 := bitv_half k
      have b4 := mul_bd (a := x + bitv (k + 1)) (b := x + bitv (k + 1)) (A := 16777216) (B := 16777216) (by omega) (by omega)
      rw [rootGo_succ] at hg
      generalize bitv (k + 1) = c at *
      have HB := Lib.hid b3
      clear b3
      have HG := Lib.hid hg
      clear hg
      by_cases hc : (x + c) * (x + c) ≤ n
      · go_wp2
        go_round
        case rel => 
          exact ⟨k, x + c, by omega, by rw [← HB.out], rfl, by omega, by have := HB.out; omega, by have := HG.out; rw [if_pos hc] at this; exact this⟩
        case measure => simp [intOf]; omega
      · go_wp2
        go_round
        case rel => exact ⟨k, x, by omega, by rw [← HB.out], rfl, by omega, by have := HB.out; omega, by have := HG.out; rw [if_neg hc] at this; exact this⟩
        case measure => simp [intOf]; omega


set_option maxHeartbeats 4000000 in
theorem root_c (a : Int) (up : Bool) (W : World) :
    Calls Tryz.prog 69 #[.int .i64 a, .bool up] W fun e w' => e = .returned (.tuple #[.int .i64 (rootN a up).1, .bool (rootN a up).2]) ∧ W = w' := by
  by_cases ha : isIn a = true <;> by_cases h0 : a < 0
  case neg =>
    have h1 := isIn_iff.1 ha
    have ⟨b1, b2⟩ := in_root ha h0
    have b3 := mul_bd (a := flRoot (a * 65536)) (b := flRoot (a * 65536)) (A := 8388608) (B := 8388608) (by omega) (by omega)
    have b4 := flRoot_bd (a * 65536) (by omega) (by omega)
    have e : rootN a up = told (upRoot (a * 65536) up) := by simp [rootN, ha, h0]
    rw [e]
    clear e
    cases up
    · have e : upRoot (a * 65536) false = flRoot (a * 65536) := by simp [upRoot]
      rw [e]
      clear e
      go_enter Tryz.func69, Tryz.ntmps69
      go_wp2_with (first | (go_at_call 38; (with_reducible refine (in_c _ _).mono ?_); rintro e w' ⟨rfl, rfl⟩) | (go_at_call 70; (with_reducible refine (number_c _ _).mono ?_); rintro e w' ⟨rfl, rfl⟩) | (go_at_call 88; (with_reducible refine (floorRoot_c _ (by omega) _).mono ?_); rintro e w' ⟨rfl, rfl⟩))
      go_ret2
      exact ⟨rfl, rfl⟩
    · by_cases hr : flRoot (a * 65536) * flRoot (a * 65536) < a * 65536
      · have e : upRoot (a * 65536) true = flRoot (a * 65536) + 1 := by
          rw [upRoot, if_pos]; simp; omega
        rw [e]
        clear e
        go_enter Tryz.func69, Tryz.ntmps69
        go_wp2_with (first | (go_at_call 38; (with_reducible refine (in_c _ _).mono ?_); rintro e w' ⟨rfl, rfl⟩) | (go_at_call 70; (with_reducible refine (number_c _ _).mono ?_); rintro e w' ⟨rfl, rfl⟩) | (go_at_call 88; (with_reducible refine (floorRoot_c _ (by omega) _).mono ?_); rintro e w' ⟨rfl, rfl⟩))
        go_ret2
        exact ⟨rfl, rfl⟩
      · have e : upRoot (a * 65536) true = flRoot (a * 65536) := by
          rw [upRoot, if_neg]; simp; omega
        rw [e]
        clear e
        go_enter Tryz.func69, Tryz.ntmps69
        go_wp2_with (first | (go_at_call 38; (with_reducible refine (in_c _ _).mono ?_); rintro e w' ⟨rfl, rfl⟩) | (go_at_call 70; (with_reducible refine (number_c _ _).mono ?_); rintro e w' ⟨rfl, rfl⟩) | (go_at_call 88; (with_reducible refine (floorRoot_c _ (by omega) _).mono ?_); rintro e w' ⟨rfl, rfl⟩))
        go_ret2
        exact ⟨rfl, rfl⟩
  all_goals
    have e : rootN a up = (0, false) := by simp [rootN, ha, h0]
    rw [e]
    clear e
    go_enter Tryz.func69, Tryz.ntmps69
    go_wp2_with (first | (go_at_call 38; (with_reducible refine (in_c _ _).mono ?_); rintro e w' ⟨rfl, rfl⟩) | (go_at_call 70; (with_reducible refine (number_c _ _).mono ?_); rintro e w' ⟨rfl, rfl⟩) | (go_at_call 88; (with_reducible refine (floorRoot_c _ (by omega) _).mono ?_); rintro e w' ⟨rfl, rfl⟩))
    go_ret2
    exact ⟨rfl, rfl⟩

end Go.Proofs.YtekhhekkepijoaaGreatDoor

namespace Go.Proofs.YtekhhekkepijoaaGreatDoor
set_option linter.unusedVariables false
open Go.ChangeShapes Go.WideShapes Go.ChangeAt Go.RowKit

/-- A field of an interval by value. -/
@[go_sem] theorem run_iv_lo (a : Iv) (w : World) : (Instr.field 36 (ivV a) 0).run Tryz.prog w = .ok (.int .i64 a.lo) w := by kernel_rfl
@[go_sem] theorem run_iv_hi (a : Iv) (w : World) : (Instr.field 36 (ivV a) 1).run Tryz.prog w = .ok (.int .i64 a.hi) w := by kernel_rfl
@[go_sem] theorem run_iv_no (a : Iv) (w : World) : (Instr.field 36 (ivV a) 2).run Tryz.prog w = .ok (.bool a.no) w := by kernel_rfl

set_option maxHeartbeats 4000000 in
theorem right_c (a : Iv) (W : World) :
    Calls Tryz.prog 17 #[ivV a] W fun e w' => e = .returned (.bool (ivRight a)) ∧ More W w' := by
  unfold ivRight
  cases h0 : a.no <;> cases h1 : isIn a.lo <;> cases h2 : isIn a.hi <;> cases h3 : decide (a.lo ≤ a.hi)
  all_goals
    go_enter Tryz.func17, Tryz.ntmps17
    go_wp2_with (first | (go_at_call 38; (with_reducible refine (in_c _ _).mono ?_); rintro e w' ⟨rfl, rfl⟩))
    go_returns
    exact ⟨rfl, (by repeat (first | exact More.refl _ | refine More.alloc ?_ _ | refine More.more ?_ _ | refine More.drew ?_ | refine More.drewN ?_ _))⟩

set_option maxHeartbeats 4000000 in
theorem none_c  (W : World) :
    Calls Tryz.prog 10 #[] W fun e w' => e = .returned (ivV ivNone) ∧ More W w' := by
  go_enter Tryz.func10, Tryz.ntmps10
  go_wp2_with fail
  go_returns
  exact ⟨rfl, (by repeat (first | exact More.refl _ | refine More.alloc ?_ _ | refine More.more ?_ _ | refine More.drew ?_ | refine More.drewN ?_ _))⟩

set_option maxHeartbeats 4000000 in
theorem of_c (a b : Int) (W : World) :
    Calls Tryz.prog 24 #[.int .i64 a, .int .i64 b] W fun e w' => e = .returned (ivV (ivOf a b)) ∧ More W w' := by
  unfold ivOf
  by_cases h : ivRight ⟨a, b, false⟩ = true
  · rw [if_pos h]
    go_enter Tryz.func24, Tryz.ntmps24
    go_wp2_with (first | (go_at_call 10; (with_reducible refine (none_c _).mono ?_); rintro e w' ⟨rfl, r, rfl⟩) | (go_at_call 17; (with_reducible refine (right_c _ _).mono ?_); rintro e w' ⟨rfl, r, rfl⟩) | (go_at_call 17; (with_reducible refine (right_c ⟨_, _, _⟩ _).mono ?_); rintro e w' ⟨rfl, r, rfl⟩))
    go_returns
    exact ⟨rfl, (by repeat (first | exact More.refl _ | refine More.alloc ?_ _ | refine More.more ?_ _ | refine More.drew ?_ | refine More.drewN ?_ _))⟩
  · rw [if_neg h]
    go_enter Tryz.func24, Tryz.ntmps24
    go_wp2_with (first | (go_at_call 10; (with_reducible refine (none_c _).mono ?_); rintro e w' ⟨rfl, r, rfl⟩) | (go_at_call 17; (with_reducible refine (right_c _ _).mono ?_); rintro e w' ⟨rfl, r, rfl⟩) | (go_at_call 17; (with_reducible refine (right_c ⟨_, _, _⟩ _).mono ?_); rintro e w' ⟨rfl, r, rfl⟩))
    go_returns
    exact ⟨rfl, (by repeat (first | exact More.refl _ | refine More.alloc ?_ _ | refine More.more ?_ _ | refine More.drew ?_ | refine More.drewN ?_ _))⟩

set_option maxHeartbeats 4000000 in
theorem point_c (n : Int) (W : World) :
    Calls Tryz.prog 23 #[.int .i64 n] W fun e w' => e = .returned (ivV (ivPoint n)) ∧ More W w' := by
  go_enter Tryz.func23, Tryz.ntmps23
  go_wp2_with (first | (go_at_call 24; (with_reducible refine (of_c _ _ _).mono ?_); rintro e w' ⟨rfl, r, rfl⟩))
  go_returns
  exact ⟨rfl, (by repeat (first | exact More.refl _ | refine More.alloc ?_ _ | refine More.more ?_ _ | refine More.drew ?_ | refine More.drewN ?_ _))⟩

set_option maxHeartbeats 4000000 in
theorem whole_c (n : Int) (W : World) :
    Calls Tryz.prog 13 #[.int .i64 n] W fun e w' => e = .returned (ivV (ivWhole n)) ∧ More W w' := by
  unfold ivWhole
  by_cases h : isIn n = true
  · rw [if_pos h]
    have hb := isIn_iff.1 h
    go_enter Tryz.func13, Tryz.ntmps13
    go_wp2_with (first | (go_at_call 10; (with_reducible refine (none_c _).mono ?_); rintro e w' ⟨rfl, r, rfl⟩) | (go_at_call 23; (with_reducible refine (point_c _ _).mono ?_); rintro e w' ⟨rfl, r, rfl⟩) | (go_at_call 38; (with_reducible refine (in_c _ _).mono ?_); rintro e w' ⟨rfl, rfl⟩))
    go_returns
    exact ⟨rfl, (by repeat (first | exact More.refl _ | refine More.alloc ?_ _ | refine More.more ?_ _ | refine More.drew ?_ | refine More.drewN ?_ _))⟩
  · rw [if_neg h]
    go_enter Tryz.func13, Tryz.ntmps13
    go_wp2_with (first | (go_at_call 10; (with_reducible refine (none_c _).mono ?_); rintro e w' ⟨rfl, r, rfl⟩) | (go_at_call 23; (with_reducible refine (point_c _ _).mono ?_); rintro e w' ⟨rfl, r, rfl⟩) | (go_at_call 38; (with_reducible refine (in_c _ _).mono ?_); rintro e w' ⟨rfl, rfl⟩))
    go_returns
    exact ⟨rfl, (by repeat (first | exact More.refl _ | refine More.alloc ?_ _ | refine More.more ?_ _ | refine More.drew ?_ | refine More.drewN ?_ _))⟩

set_option maxHeartbeats 4000000 in
theorem both_c (a b : Iv) (W : World) :
    Calls Tryz.prog 35 #[ivV a, ivV b] W fun e w' => e = .returned (.bool (ivBoth a b)) ∧ More W w' := by
  unfold ivBoth
  cases h0 : ivRight a <;> cases h1 : ivRight b
  all_goals
    go_enter Tryz.func35, Tryz.ntmps35
    go_wp2_with (first | (go_at_call 17; (with_reducible refine (right_c _ _).mono ?_); rintro e w' ⟨rfl, r, rfl⟩) | (go_at_call 17; (with_reducible refine (right_c ⟨_, _, _⟩ _).mono ?_); rintro e w' ⟨rfl, r, rfl⟩))
    go_returns
    exact ⟨rfl, (by repeat (first | exact More.refl _ | refine More.alloc ?_ _ | refine More.more ?_ _ | refine More.drew ?_ | refine More.drewN ?_ _))⟩

set_option maxHeartbeats 4000000 in
theorem neg_c (a : Iv) (W : World) :
    Calls Tryz.prog 68 #[ivV a] W fun e w' => e = .returned (ivV (ivNeg a)) ∧ More W w' := by
  unfold ivNeg
  by_cases h : ivRight a = true
  · rw [if_pos h]
    obtain ⟨⟨b1, b2⟩, ⟨b3, b4⟩, b5⟩ := right_bd h
    go_enter Tryz.func68, Tryz.ntmps68
    go_wp2_with (first | (go_at_call 10; (with_reducible refine (none_c _).mono ?_); rintro e w' ⟨rfl, r, rfl⟩) | (go_at_call 17; (with_reducible refine (right_c _ _).mono ?_); rintro e w' ⟨rfl, r, rfl⟩) | (go_at_call 17; (with_reducible refine (right_c ⟨_, _, _⟩ _).mono ?_); rintro e w' ⟨rfl, r, rfl⟩) | (go_at_call 24; (with_reducible refine (of_c _ _ _).mono ?_); rintro e w' ⟨rfl, r, rfl⟩))
    go_returns
    exact ⟨rfl, (by repeat (first | exact More.refl _ | refine More.alloc ?_ _ | refine More.more ?_ _ | refine More.drew ?_ | refine More.drewN ?_ _))⟩
  · rw [if_neg h]
    go_enter Tryz.func68, Tryz.ntmps68
    go_wp2_with (first | (go_at_call 10; (with_reducible refine (none_c _).mono ?_); rintro e w' ⟨rfl, r, rfl⟩) | (go_at_call 17; (with_reducible refine (right_c _ _).mono ?_); rintro e w' ⟨rfl, r, rfl⟩) | (go_at_call 17; (with_reducible refine (right_c ⟨_, _, _⟩ _).mono ?_); rintro e w' ⟨rfl, r, rfl⟩) | (go_at_call 24; (with_reducible refine (of_c _ _ _).mono ?_); rintro e w' ⟨rfl, r, rfl⟩))
    go_returns
    exact ⟨rfl, (by repeat (first | exact More.refl _ | refine More.alloc ?_ _ | refine More.more ?_ _ | refine More.drew ?_ | refine More.drewN ?_ _))⟩

set_option maxHeartbeats 4000000 in
theorem add_c (a b : Iv) (W : World) :
    Calls Tryz.prog 29 #[ivV a, ivV b] W fun e w' => e = .returned (ivV (ivAdd a b)) ∧ More W w' := by
  unfold ivAdd
  by_cases h : ivBoth a b = true
  · rw [if_pos h]
    obtain ⟨⟨⟨b1, b2⟩, ⟨b3, b4⟩, b5⟩, ⟨c1, c2⟩, ⟨c3, c4⟩, c5⟩ := both_bd h
    go_enter Tryz.func29, Tryz.ntmps29
    go_wp2_with (first | (go_at_call 10; (with_reducible refine (none_c _).mono ?_); rintro e w' ⟨rfl, r, rfl⟩) | (go_at_call 24; (with_reducible refine (of_c _ _ _).mono ?_); rintro e w' ⟨rfl, r, rfl⟩) | (go_at_call 35; (with_reducible refine (both_c _ _ _).mono ?_); rintro e w' ⟨rfl, r, rfl⟩) | (go_at_call 35; (with_reducible refine (both_c _ ⟨_, _, _⟩ _).mono ?_); rintro e w' ⟨rfl, r, rfl⟩) | (go_at_call 35; (with_reducible refine (both_c ⟨_, _, _⟩ _ _).mono ?_); rintro e w' ⟨rfl, r, rfl⟩) | (go_at_call 35; (with_reducible refine (both_c ⟨_, _, _⟩ ⟨_, _, _⟩ _).mono ?_); rintro e w' ⟨rfl, r, rfl⟩))
    go_returns
    exact ⟨rfl, (by repeat (first | exact More.refl _ | refine More.alloc ?_ _ | refine More.more ?_ _ | refine More.drew ?_ | refine More.drewN ?_ _))⟩
  · rw [if_neg h]
    go_enter Tryz.func29, Tryz.ntmps29
    go_wp2_with (first | (go_at_call 10; (with_reducible refine (none_c _).mono ?_); rintro e w' ⟨rfl, r, rfl⟩) | (go_at_call 24; (with_reducible refine (of_c _ _ _).mono ?_); rintro e w' ⟨rfl, r, rfl⟩) | (go_at_call 35; (with_reducible refine (both_c _ _ _).mono ?_); rintro e w' ⟨rfl, r, rfl⟩) | (go_at_call 35; (with_reducible refine (both_c _ ⟨_, _, _⟩ _).mono ?_); rintro e w' ⟨rfl, r, rfl⟩) | (go_at_call 35; (with_reducible refine (both_c ⟨_, _, _⟩ _ _).mono ?_); rintro e w' ⟨rfl, r, rfl⟩) | (go_at_call 35; (with_reducible refine (both_c ⟨_, _, _⟩ ⟨_, _, _⟩ _).mono ?_); rintro e w' ⟨rfl, r, rfl⟩))
    go_returns
    exact ⟨rfl, (by repeat (first | exact More.refl _ | refine More.alloc ?_ _ | refine More.more ?_ _ | refine More.drew ?_ | refine More.drewN ?_ _))⟩

set_option maxHeartbeats 4000000 in
theorem sub_c (a b : Iv) (W : World) :
    Calls Tryz.prog 33 #[ivV a, ivV b] W fun e w' => e = .returned (ivV (ivSub a b)) ∧ More W w' := by
  go_enter Tryz.func33, Tryz.ntmps33
  go_wp2_with (first | (go_at_call 29; (with_reducible refine (add_c _ _ _).mono ?_); rintro e w' ⟨rfl, r, rfl⟩) | (go_at_call 29; (with_reducible refine (add_c _ ⟨_, _, _⟩ _).mono ?_); rintro e w' ⟨rfl, r, rfl⟩) | (go_at_call 29; (with_reducible refine (add_c ⟨_, _, _⟩ _ _).mono ?_); rintro e w' ⟨rfl, r, rfl⟩) | (go_at_call 29; (with_reducible refine (add_c ⟨_, _, _⟩ ⟨_, _, _⟩ _).mono ?_); rintro e w' ⟨rfl, r, rfl⟩) | (go_at_call 68; (with_reducible refine (neg_c _ _).mono ?_); rintro e w' ⟨rfl, r, rfl⟩) | (go_at_call 68; (with_reducible refine (neg_c ⟨_, _, _⟩ _).mono ?_); rintro e w' ⟨rfl, r, rfl⟩) | ((with_reducible show Code.wp _ (Code.region 1 _ true) _ _ _); (with_reducible refine wp_more_tailq_m (id := 1) 4 ?_ ?_ ?_); kernel_rfl; kernel_rfl; (try simp only [List.take_succ_cons, List.take_zero, List.drop_succ_cons, List.drop_zero]); (repeat (any_goals (first | go_big_quiet_step ((first | (go_at_call 29; (with_reducible apply quiet_call); with_reducible exact add_c _ _ _) | (go_at_call 29; (with_reducible apply quiet_call); with_reducible exact add_c _ ⟨_, _, _⟩ _) | (go_at_call 29; (with_reducible apply quiet_call); with_reducible exact add_c ⟨_, _, _⟩ _ _) | (go_at_call 29; (with_reducible apply quiet_call); with_reducible exact add_c ⟨_, _, _⟩ ⟨_, _, _⟩ _) | (go_at_call 68; (with_reducible apply quiet_call); with_reducible exact neg_c _ _) | (go_at_call 68; (with_reducible apply quiet_call); with_reducible exact neg_c ⟨_, _, _⟩ _))) | quiet_step ((first | (go_at_call 29; (with_reducible apply quiet_call); with_reducible exact add_c _ _ _) | (go_at_call 29; (with_reducible apply quiet_call); with_reducible exact add_c _ ⟨_, _, _⟩ _) | (go_at_call 29; (with_reducible apply quiet_call); with_reducible exact add_c ⟨_, _, _⟩ _ _) | (go_at_call 29; (with_reducible apply quiet_call); with_reducible exact add_c ⟨_, _, _⟩ ⟨_, _, _⟩ _) | (go_at_call 68; (with_reducible apply quiet_call); with_reducible exact neg_c _ _) | (go_at_call 68; (with_reducible apply quiet_call); with_reducible exact neg_c ⟨_, _, _⟩ _)))))); (with_reducible refine wpQuiet_nil ?_); intro r) | ((with_reducible show Code.wp _ (Code.region 1 _ true) _ _ _); (with_reducible refine wp_more_tailq (id := 1) 4 ?_ ?_ ?_); kernel_rfl; kernel_rfl; (try simp only [List.take_succ_cons, List.take_zero, List.drop_succ_cons, List.drop_zero]); (repeat (any_goals (first | go_big_quiet_step ((first | (go_at_call 29; (with_reducible apply quiet_call); with_reducible exact add_c _ _ _) | (go_at_call 29; (with_reducible apply quiet_call); with_reducible exact add_c _ ⟨_, _, _⟩ _) | (go_at_call 29; (with_reducible apply quiet_call); with_reducible exact add_c ⟨_, _, _⟩ _ _) | (go_at_call 29; (with_reducible apply quiet_call); with_reducible exact add_c ⟨_, _, _⟩ ⟨_, _, _⟩ _) | (go_at_call 68; (with_reducible apply quiet_call); with_reducible exact neg_c _ _) | (go_at_call 68; (with_reducible apply quiet_call); with_reducible exact neg_c ⟨_, _, _⟩ _))) | quiet_step ((first | (go_at_call 29; (with_reducible apply quiet_call); with_reducible exact add_c _ _ _) | (go_at_call 29; (with_reducible apply quiet_call); with_reducible exact add_c _ ⟨_, _, _⟩ _) | (go_at_call 29; (with_reducible apply quiet_call); with_reducible exact add_c ⟨_, _, _⟩ _ _) | (go_at_call 29; (with_reducible apply quiet_call); with_reducible exact add_c ⟨_, _, _⟩ ⟨_, _, _⟩ _) | (go_at_call 68; (with_reducible apply quiet_call); with_reducible exact neg_c _ _) | (go_at_call 68; (with_reducible apply quiet_call); with_reducible exact neg_c ⟨_, _, _⟩ _)))))); (with_reducible refine wpQuiet_nil ?_); intro r))
  go_returns
  exact ⟨rfl, (by repeat (first | exact More.refl _ | refine More.alloc ?_ _ | refine More.more ?_ _ | refine More.drew ?_ | refine More.drewN ?_ _))⟩

set_option maxHeartbeats 4000000 in
theorem out_c (lo hi : Int) (h0 : -1152921504606846976 ≤ lo ∧ lo ≤ 1152921504606846976) (h1 : -1152921504606846976 ≤ hi ∧ hi ≤ 1152921504606846976) (W : World) :
    Calls Tryz.prog 67 #[.int .i64 lo, .int .i64 hi] W fun e w' => e = .returned (ivV (ivOut lo hi)) ∧ More W w' := by
  have e1 := fdiv_abs (-hi) 65536
  have e2 : -1152921504606846976 ≤ (-hi).fdiv 65536 ∧ (-hi).fdiv 65536 ≤ 1152921504606846976 := by omega
  clear e1
  go_enter Tryz.func67, Tryz.ntmps67
  go_wp2_with (first | (go_at_call 24; (with_reducible refine (of_c _ _ _).mono ?_); rintro e w' ⟨rfl, r, rfl⟩) | (go_at_call 63; (with_reducible refine (floor_c _ _ (by omega) (by omega) (by omega) _).mono ?_); rintro e w' ⟨rfl, rfl⟩))
  go_returns
  exact ⟨rfl, (by repeat (first | exact More.refl _ | refine More.alloc ?_ _ | refine More.more ?_ _ | refine More.drew ?_ | refine More.drewN ?_ _))⟩

set_option maxHeartbeats 4000000 in
theorem mul_iv_c (a b : Iv) (W : World) :
    Calls Tryz.prog 32 #[ivV a, ivV b] W fun e w' => e = .returned (ivV (ivMul a b)) ∧ More W w' := by
  unfold ivMul
  by_cases h : ivBoth a b = true
  · rw [if_pos h]
    have p1 := prod_in h a.lo b.lo (.inl rfl) (.inl rfl)
    have p2 := prod_in h a.lo b.hi (.inl rfl) (.inr rfl)
    have p3 := prod_in h a.hi b.lo (.inr rfl) (.inl rfl)
    have p4 := prod_in h a.hi b.hi (.inr rfl) (.inr rfl)
    go_enter Tryz.func32, Tryz.ntmps32
    go_wp2_with (first | (go_at_call 10; (with_reducible refine (none_c _).mono ?_); rintro e w' ⟨rfl, r, rfl⟩) | (go_at_call 35; (with_reducible refine (both_c _ _ _).mono ?_); rintro e w' ⟨rfl, r, rfl⟩) | (go_at_call 35; (with_reducible refine (both_c _ ⟨_, _, _⟩ _).mono ?_); rintro e w' ⟨rfl, r, rfl⟩) | (go_at_call 35; (with_reducible refine (both_c ⟨_, _, _⟩ _ _).mono ?_); rintro e w' ⟨rfl, r, rfl⟩) | (go_at_call 35; (with_reducible refine (both_c ⟨_, _, _⟩ ⟨_, _, _⟩ _).mono ?_); rintro e w' ⟨rfl, r, rfl⟩) | (go_at_call 67; (with_reducible refine (out_c _ _ (by omega) (by omega) _).mono ?_); rintro e w' ⟨rfl, r, rfl⟩) | ((with_reducible show Code.wp _ (Code.region 3 _ true) _ _ _); (with_reducible refine wp_more_quick_m (id := 3) ?_ ?_ ?_); kernel_rfl; kernel_rfl; (try simp only [List.take_succ_cons, List.take_zero, List.drop_succ_cons, List.drop_zero]); (repeat (any_goals (first | go_big_quiet_step (fail) | quiet_step (fail)))); (with_reducible refine wpQuiet_nil ?_); intro r) | ((with_reducible show Code.wp _ (Code.region 3 _ true) _ _ _); (with_reducible refine wp_more_quick (id := 3) ?_ ?_ ?_); kernel_rfl; kernel_rfl; (try simp only [List.take_succ_cons, List.take_zero, List.drop_succ_cons, List.drop_zero]); (repeat (any_goals (first | go_big_quiet_step (fail) | quiet_step (fail)))); (with_reducible refine wpQuiet_nil ?_); intro r))
    go_returns
    exact ⟨rfl, (by repeat (first | exact More.refl _ | refine More.alloc ?_ _ | refine More.more ?_ _ | refine More.drew ?_ | refine More.drewN ?_ _))⟩
  · rw [if_neg h]
    go_enter Tryz.func32, Tryz.ntmps32
    go_wp2_with (first | (go_at_call 10; (with_reducible refine (none_c _).mono ?_); rintro e w' ⟨rfl, r, rfl⟩) | (go_at_call 35; (with_reducible refine (both_c _ _ _).mono ?_); rintro e w' ⟨rfl, r, rfl⟩) | (go_at_call 35; (with_reducible refine (both_c _ ⟨_, _, _⟩ _).mono ?_); rintro e w' ⟨rfl, r, rfl⟩) | (go_at_call 35; (with_reducible refine (both_c ⟨_, _, _⟩ _ _).mono ?_); rintro e w' ⟨rfl, r, rfl⟩) | (go_at_call 35; (with_reducible refine (both_c ⟨_, _, _⟩ ⟨_, _, _⟩ _).mono ?_); rintro e w' ⟨rfl, r, rfl⟩) | (go_at_call 67; (with_reducible refine (out_c _ _ (by omega) (by omega) _).mono ?_); rintro e w' ⟨rfl, r, rfl⟩) | ((with_reducible show Code.wp _ (Code.region 3 _ true) _ _ _); (with_reducible refine wp_more_quick_m (id := 3) ?_ ?_ ?_); kernel_rfl; kernel_rfl; (try simp only [List.take_succ_cons, List.take_zero, List.drop_succ_cons, List.drop_zero]); (repeat (any_goals (first | go_big_quiet_step (fail) | quiet_step (fail)))); (with_reducible refine wpQuiet_nil ?_); intro r) | ((with_reducible show Code.wp _ (Code.region 3 _ true) _ _ _); (with_reducible refine wp_more_quick (id := 3) ?_ ?_ ?_); kernel_rfl; kernel_rfl; (try simp only [List.take_succ_cons, List.take_zero, List.drop_succ_cons, List.drop_zero]); (repeat (any_goals (first | go_big_quiet_step (fail) | quiet_step (fail)))); (with_reducible refine wpQuiet_nil ?_); intro r))
    go_returns
    exact ⟨rfl, (by repeat (first | exact More.refl _ | refine More.alloc ?_ _ | refine More.more ?_ _ | refine More.drew ?_ | refine More.drewN ?_ _))⟩

set_option maxHeartbeats 4000000 in
theorem has_c (a : Iv) (n : Int) (W : World) :
    Calls Tryz.prog 36 #[ivV a, .int .i64 n] W fun e w' => e = .returned (.bool (ivHas a n)) ∧ More W w' := by
  unfold ivHas
  cases h0 : ivRight a <;> cases h1 : decide (a.lo ≤ n) <;> cases h2 : decide (n ≤ a.hi)
  all_goals
    go_enter Tryz.func36, Tryz.ntmps36
    go_wp2_with (first | (go_at_call 17; (with_reducible refine (right_c _ _).mono ?_); rintro e w' ⟨rfl, r, rfl⟩) | (go_at_call 17; (with_reducible refine (right_c ⟨_, _, _⟩ _).mono ?_); rintro e w' ⟨rfl, r, rfl⟩))
    go_returns
    exact ⟨rfl, (by repeat (first | exact More.refl _ | refine More.alloc ?_ _ | refine More.more ?_ _ | refine More.drew ?_ | refine More.drewN ?_ _))⟩

set_option maxHeartbeats 4000000 in
theorem sqr_c (a : Iv) (W : World) :
    Calls Tryz.prog 31 #[ivV a] W fun e w' => e = .returned (ivV (ivSqr a)) ∧ More W w' := by
  unfold ivSqr
  by_cases h : ivRight a = true
  · rw [if_pos h]
    obtain ⟨⟨b1, b2⟩, ⟨b3, b4⟩, b5⟩ := right_bd h
    have p1 := mul_bd (A := 1073741824) (B := 1073741824) ⟨b1, b2⟩ ⟨b1, b2⟩
    have p2 := mul_bd (A := 1073741824) (B := 1073741824) ⟨b3, b4⟩ ⟨b3, b4⟩
    by_cases h2 : ivHas a 0 = true
    · rw [if_pos h2]
      go_enter Tryz.func31, Tryz.ntmps31
      go_wp2_with (first | (go_at_call 10; (with_reducible refine (none_c _).mono ?_); rintro e w' ⟨rfl, r, rfl⟩) | (go_at_call 17; (with_reducible refine (right_c _ _).mono ?_); rintro e w' ⟨rfl, r, rfl⟩) | (go_at_call 17; (with_reducible refine (right_c ⟨_, _, _⟩ _).mono ?_); rintro e w' ⟨rfl, r, rfl⟩) | (go_at_call 36; (with_reducible refine (has_c _ _ _).mono ?_); rintro e w' ⟨rfl, r, rfl⟩) | (go_at_call 36; (with_reducible refine (has_c ⟨_, _, _⟩ _ _).mono ?_); rintro e w' ⟨rfl, r, rfl⟩) | (go_at_call 67; (with_reducible refine (out_c _ _ (by omega) (by omega) _).mono ?_); rintro e w' ⟨rfl, r, rfl⟩) | ((with_reducible show Code.wp _ (Code.region 3 _ true) _ _ _); (with_reducible refine wp_more_quick_m (id := 3) ?_ ?_ ?_); kernel_rfl; kernel_rfl; (try simp only [List.take_succ_cons, List.take_zero, List.drop_succ_cons, List.drop_zero]); (repeat (any_goals (first | go_big_quiet_step (fail) | quiet_step (fail)))); (with_reducible refine wpQuiet_nil ?_); intro r) | ((with_reducible show Code.wp _ (Code.region 3 _ true) _ _ _); (with_reducible refine wp_more_quick (id := 3) ?_ ?_ ?_); kernel_rfl; kernel_rfl; (try simp only [List.take_succ_cons, List.take_zero, List.drop_succ_cons, List.drop_zero]); (repeat (any_goals (first | go_big_quiet_step (fail) | quiet_step (fail)))); (with_reducible refine wpQuiet_nil ?_); intro r))
      go_returns
      exact ⟨rfl, (by repeat (first | exact More.refl _ | refine More.alloc ?_ _ | refine More.more ?_ _ | refine More.drew ?_ | refine More.drewN ?_ _))⟩
    · rw [if_neg h2]
      go_enter Tryz.func31, Tryz.ntmps31
      go_wp2_with (first | (go_at_call 10; (with_reducible refine (none_c _).mono ?_); rintro e w' ⟨rfl, r, rfl⟩) | (go_at_call 17; (with_reducible refine (right_c _ _).mono ?_); rintro e w' ⟨rfl, r, rfl⟩) | (go_at_call 17; (with_reducible refine (right_c ⟨_, _, _⟩ _).mono ?_); rintro e w' ⟨rfl, r, rfl⟩) | (go_at_call 36; (with_reducible refine (has_c _ _ _).mono ?_); rintro e w' ⟨rfl, r, rfl⟩) | (go_at_call 36; (with_reducible refine (has_c ⟨_, _, _⟩ _ _).mono ?_); rintro e w' ⟨rfl, r, rfl⟩) | (go_at_call 67; (with_reducible refine (out_c _ _ (by omega) (by omega) _).mono ?_); rintro e w' ⟨rfl, r, rfl⟩) | ((with_reducible show Code.wp _ (Code.region 3 _ true) _ _ _); (with_reducible refine wp_more_quick_m (id := 3) ?_ ?_ ?_); kernel_rfl; kernel_rfl; (try simp only [List.take_succ_cons, List.take_zero, List.drop_succ_cons, List.drop_zero]); (repeat (any_goals (first | go_big_quiet_step (fail) | quiet_step (fail)))); (with_reducible refine wpQuiet_nil ?_); intro r) | ((with_reducible show Code.wp _ (Code.region 3 _ true) _ _ _); (with_reducible refine wp_more_quick (id := 3) ?_ ?_ ?_); kernel_rfl; kernel_rfl; (try simp only [List.take_succ_cons, List.take_zero, List.drop_succ_cons, List.drop_zero]); (repeat (any_goals (first | go_big_quiet_step (fail) | quiet_step (fail)))); (with_reducible refine wpQuiet_nil ?_); intro r))
      go_returns
      exact ⟨rfl, (by repeat (first | exact More.refl _ | refine More.alloc ?_ _ | refine More.more ?_ _ | refine More.drew ?_ | refine More.drewN ?_ _))⟩
  · rw [if_neg h]
    go_enter Tryz.func31, Tryz.ntmps31
    go_wp2_with (first | (go_at_call 10; (with_reducible refine (none_c _).mono ?_); rintro e w' ⟨rfl, r, rfl⟩) | (go_at_call 17; (with_reducible refine (right_c _ _).mono ?_); rintro e w' ⟨rfl, r, rfl⟩) | (go_at_call 17; (with_reducible refine (right_c ⟨_, _, _⟩ _).mono ?_); rintro e w' ⟨rfl, r, rfl⟩) | (go_at_call 36; (with_reducible refine (has_c _ _ _).mono ?_); rintro e w' ⟨rfl, r, rfl⟩) | (go_at_call 36; (with_reducible refine (has_c ⟨_, _, _⟩ _ _).mono ?_); rintro e w' ⟨rfl, r, rfl⟩) | (go_at_call 67; (with_reducible refine (out_c _ _ (by omega) (by omega) _).mono ?_); rintro e w' ⟨rfl, r, rfl⟩) | ((with_reducible show Code.wp _ (Code.region 3 _ true) _ _ _); (with_reducible refine wp_more_quick_m (id := 3) ?_ ?_ ?_); kernel_rfl; kernel_rfl; (try simp only [List.take_succ_cons, List.take_zero, List.drop_succ_cons, List.drop_zero]); (repeat (any_goals (first | go_big_quiet_step (fail) | quiet_step (fail)))); (with_reducible refine wpQuiet_nil ?_); intro r) | ((with_reducible show Code.wp _ (Code.region 3 _ true) _ _ _); (with_reducible refine wp_more_quick (id := 3) ?_ ?_ ?_); kernel_rfl; kernel_rfl; (try simp only [List.take_succ_cons, List.take_zero, List.drop_succ_cons, List.drop_zero]); (repeat (any_goals (first | go_big_quiet_step (fail) | quiet_step (fail)))); (with_reducible refine wpQuiet_nil ?_); intro r))
    go_returns
    exact ⟨rfl, (by repeat (first | exact More.refl _ | refine More.alloc ?_ _ | refine More.more ?_ _ | refine More.drew ?_ | refine More.drewN ?_ _))⟩

set_option maxHeartbeats 4000000 in
theorem iroot_c (a : Iv) (W : World) :
    Calls Tryz.prog 34 #[ivV a] W fun e w' => e = .returned (ivV (ivRoot a)) ∧ More W w' := by
  unfold ivRoot
  cases h0 : ivRight a <;> cases h1 : (rootN a.lo false).2 <;> cases h2 : (rootN a.hi true).2
  all_goals
    simp only [Bool.and_true, Bool.and_false, if_true, if_false, Bool.false_eq_true]
    go_enter Tryz.func34, Tryz.ntmps34
    go_wp2_with (first | (go_at_call 10; (with_reducible refine (none_c _).mono ?_); rintro e w' ⟨rfl, r, rfl⟩) | (go_at_call 17; (with_reducible refine (right_c _ _).mono ?_); rintro e w' ⟨rfl, r, rfl⟩) | (go_at_call 17; (with_reducible refine (right_c ⟨_, _, _⟩ _).mono ?_); rintro e w' ⟨rfl, r, rfl⟩) | (go_at_call 24; (with_reducible refine (of_c _ _ _).mono ?_); rintro e w' ⟨rfl, r, rfl⟩) | (go_at_call 69; (with_reducible refine (root_c _ _ _).mono ?_); rintro e w' ⟨rfl, rfl⟩))
    go_returns
    exact ⟨rfl, (by repeat (first | exact More.refl _ | refine More.alloc ?_ _ | refine More.more ?_ _ | refine More.drew ?_ | refine More.drewN ?_ _))⟩

end Go.Proofs.YtekhhekkepijoaaGreatDoor

namespace Go.Proofs.YtekhhekkepijoaaGreatDoor
set_option linter.unusedVariables false
open Go.RowKit

/-- The cells of the slice v hold the intervals l. -/
def Row (w : World) (v : Value) (l : List Iv) : Prop :=
  (v = .slice none 0 0 ∧ l = []) ∨ ∃ g o c, v = .slice (some ⟨g, o, none⟩) l.length c ∧ ∀ k a, l[k]? = some a →
    w.cell? ⟨g, o + k * 3, none⟩ = some (.int .i64 a.lo) ∧ w.cell? ⟨g, o + k * 3 + 1, none⟩ = some (.int .i64 a.hi) ∧ w.cell? ⟨g, o + k * 3 + 2, none⟩ = some (.bool a.no)
theorem Row.nil (w : World) : Row w (.slice none 0 0) [] := .inl ⟨rfl, rfl⟩
theorem Row.keep {w w' : World} {v : Value} {l : List Iv} (h : Row w v l) (hb : ∀ k, k < w.heap.size → w'.heap[k]? = w.heap[k]?) : Row w' v l := by
  rcases h with h | ⟨g, o, c, hv, hc⟩
  · exact .inl h
  · refine .inr ⟨g, o, c, hv, fun k a hk => ?_⟩
    obtain ⟨h1, h2, h3⟩ := hc k a hk
    have hg : g < w.heap.size := World.block_lt_of_cell? w _ h1
    have e : ∀ n, w'.cell? ⟨g, n, none⟩ = w.cell? ⟨g, n, none⟩ := fun n => World.cell?_of_block (hb g hg)
    rw [e, e, e]
    exact ⟨h1, h2, h3⟩
theorem Row.more {w : World} {v : Value} {l : List Iv} (h : Row w v l) {r : Rest} : Row (more w r) v l := h.keep fun k hk => heap_more w r k hk
theorem Row.plus {w : World} {v : Value} {l : List Iv} {r s : Rest} (h : Row (_root_.Go.Proofs.YtekhhekkepijoaaGreatDoor.more w r) v l) : Row (_root_.Go.Proofs.YtekhhekkepijoaaGreatDoor.more w (r.plus s)) v l := by
  rw [← more_more]
  exact h.more
theorem Row.alloc {w : World} {v : Value} {l : List Iv} (h : Row w v l) {o : Obj} : Row (w.alloc o) v l := h.keep fun k hk => Below.heap_alloc w o k hk
theorem Row.drew {w : World} {v : Value} {l : List Iv} (h : Row w v l) : Row w.drew v l := h.keep fun _ _ => rfl
theorem Row.drewN {w : World} {v : Value} {l : List Iv} (h : Row w v l) {n : Nat} : Row (w.drewN n) v l := h.keep fun _ _ => rfl
theorem Row.up {w w' : World} {v : Value} {l : List Iv} (h : Row w v l) (hm : More w w') : Row w' v l := by
  obtain ⟨r, rfl⟩ := hm
  exact h.more

/-- One interval's three cells; those of a list. -/
def cells1 (a : Iv) : List Value := [.int .i64 a.lo, .int .i64 a.hi, .bool a.no]
def cellsL : List Iv → List Value
  | [] => []
  | a :: r => cells1 a ++ cellsL r
theorem cellsL_length : ∀ l : List Iv, (cellsL l).length = l.length * 3
  | [] => rfl
  | a :: r => by simp [cellsL, cells1, cellsL_length r]; omega
theorem cellsL_at : ∀ (l : List Iv) (k : Nat) (a : Iv), l[k]? = some a →
    (cellsL l)[k * 3]? = some (.int .i64 a.lo) ∧ (cellsL l)[k * 3 + 1]? = some (.int .i64 a.hi) ∧ (cellsL l)[k * 3 + 2]? = some (.bool a.no)
  | [], k, a, h => by simp at h
  | b :: r, 0, a, h => by
    simp at h
    subst h
    simp [cellsL, cells1]
  | b :: r, k + 1, a, h => by
    have := cellsL_at r k a (by simpa using h)
    simp only [cellsL, cells1, List.cons_append, List.nil_append]
    rw [show (k + 1) * 3 = k * 3 + 1 + 1 + 1 by omega, show k * 3 + 1 + 1 + 1 + 1 = (k * 3 + 1) + 1 + 1 + 1 by omega, show k * 3 + 1 + 1 + 1 + 2 = (k * 3 + 2) + 1 + 1 + 1 by omega]
    simpa using this
/-- A row of cells that begins with those of l holds l. -/
theorem Row.of_cells {w : World} {g c : Nat} {e : TypeId} {cur : Array Value} {l : List Iv} {x : Value} (hx : x = .slice (some ⟨g, 0, none⟩) l.length c) (hg : w.heap[g]? = some (.cells cur e (0, 0))) (ht : cur.toList.take (l.length * 3) = cellsL l) : Row w x l := by
  refine .inr ⟨g, 0, c, hx, fun k a hk => ?_⟩
  have hlt : k < l.length := (List.getElem?_eq_some_iff.1 hk).1
  obtain ⟨h1, h2, h3⟩ := cellsL_at l k a hk
  rw [← ht] at h1 h2 h3
  have e : ∀ n u, (cur.toList.take (l.length * 3))[n]? = some u → w.cell? ⟨g, n, none⟩ = some u := fun n u hu => by
    have hn : n < l.length * 3 := by
      have := (List.getElem?_eq_some_iff.1 hu).1
      simp at this
      omega
    rw [List.getElem?_take_of_lt hn] at hu
    simp [World.cell?, hg]
    simpa using hu
  simp only [Nat.zero_add]
  exact ⟨e _ _ h1, e _ _ h2, e _ _ h3⟩
theorem Row.of_owns {w : World} {base n : Nat} {v : Value} {e : TypeId} {l : List Iv} (h : w.ownsRow base e 3 v n (cellsL l)) : Row w v l := by
  obtain ⟨hl, h⟩ := h
  rw [cellsL_length] at hl
  have hn : n = l.length := by omega
  subst hn
  rcases h with ⟨rfl, h0⟩ | ⟨g, cap, cur, rfl, -, hg, -, -, -, ht⟩
  · exact .inl ⟨rfl, List.eq_nil_of_length_eq_zero h0⟩
  · exact Row.of_cells rfl hg ht
theorem Row.lit {w : World} {v : Value} {e : TypeId} {l : List Iv} {b c : Nat} {cur : Array Value} (hv : v = .slice (some ⟨b, 0, none⟩) l.length c) (hb : b = w.heap.size) (ht : cur.toList = cellsL l) : Row (w.alloc (.cells cur e)) v l := by
  subst hb
  refine Row.of_cells hv (heap_alloc_new w _) ?_
  rw [ht, ← cellsL_length, List.take_length]
theorem owns_keep {w w' : World} {base n size : Nat} {e : TypeId} {v : Value} {xs : List Value} (h : w.ownsRow base e size v n xs) (hb : ∀ k, k < w.heap.size → w'.heap[k]? = w.heap[k]?) : w'.ownsRow base e size v n xs := by
  obtain ⟨hl, h⟩ := h
  refine ⟨hl, ?_⟩
  rcases h with h | ⟨g, cap, cur, hv, hg, hc, h1⟩
  · exact .inl h
  · exact .inr ⟨g, cap, cur, hv, hg, (hb g ((Array.getElem?_eq_some_iff.1 hc).1)).trans hc, h1⟩
theorem owns_more {w : World} {base n size : Nat} {e : TypeId} {v : Value} {xs : List Value} (h : w.ownsRow base e size v n xs) {r : Rest} : (more w r).ownsRow base e size v n xs := owns_keep h fun k hk => heap_more w r k hk
theorem owns_alloc {w : World} {base n size : Nat} {e : TypeId} {v : Value} {xs : List Value} (h : w.ownsRow base e size v n xs) {o : Obj} : (w.alloc o).ownsRow base e size v n xs := owns_keep h fun k hk => Below.heap_alloc w o k hk
/-! Sums of powers and slopes. -/
def slopeTo (l : List Iv) (k : Nat) : List Iv := (List.range k).map fun i => ivTimes (l.getD (i + 1) ivNone) ((i + 1 : Nat) : Int)
def slope (l : List Iv) : List Iv := slopeTo l (l.length - 1)
theorem slopeTo_length (l : List Iv) (k : Nat) : (slopeTo l k).length = k := by simp [slopeTo]
@[simp] theorem slope_length (l : List Iv) : (slope l).length = l.length - 1 := slopeTo_length l _
end Go.Proofs.YtekhhekkepijoaaGreatDoor

namespace Go.Proofs.YtekhhekkepijoaaGreatDoor
set_option linter.unusedVariables false
open Go.ChangeShapes Go.WideShapes Go.ChangeAt Go.RowKit

/-- The cells of the slice v hold the numbers l. -/
def Ints (w : World) (v : Value) (l : List Int) : Prop :=
  (l = [] ∧ ∃ a c, v = .slice a 0 c) ∨ ∃ b o c, v = .slice (some ⟨b, o, none⟩) l.length c ∧ ∀ k n, l[k]? = some n → w.cell? ⟨b, o + k, none⟩ = some (.int .i64 n)
theorem ints_form {w : World} {v : Value} {l : List Int} (h : Ints w v l) : ∃ ao c, v = .slice ao l.length c ∧ (0 < l.length → ∃ b o, ao = some ⟨b, o, none⟩ ∧ ∀ k, k < l.length → b < w.heap.size ∧ w.cell? ⟨b, o + k, none⟩ = some (.int .i64 (l.getD k 0))) := by
  rcases h with ⟨rfl, a, c, rfl⟩ | ⟨b, o, c, rfl, hc⟩
  · exact ⟨a, c, rfl, fun h => by simp at h⟩
  · refine ⟨_, c, rfl, fun _ => ⟨b, o, rfl, fun k hk => ?_⟩⟩
    have := hc k (l.getD k 0) (by simp [List.getD, hk])
    exact ⟨World.block_lt_of_cell? w _ this, this⟩

/-! Rows of the call's own. -/
theorem owns_base {w : World} {base base' n size : Nat} {e : TypeId} {v : Value} {xs : List Value} (h : w.ownsRow base e size v n xs) (hb : base' ≤ base) : w.ownsRow base' e size v n xs := by
  obtain ⟨hl, h⟩ := h
  refine ⟨hl, ?_⟩
  rcases h with h | ⟨g, cap, cur, hv, hg, h1⟩
  · exact .inl h
  · exact .inr ⟨g, cap, cur, hv, Nat.le_trans hb hg, h1⟩
theorem grown_any {w w' : World} (h : w.grownBy w' none) (row : Option Nat) : w.grownBy w' row := ⟨h.os, h.tape, h.output, h.size, fun k hk _ => h.block k hk (by simp)⟩
/-- 'append' on a row of the call's own: the row's block is the same, or it is new. -/
theorem wpList_append_row {P : Program} (w : World) {ops : Array Oper} {rest : List Oper} {o : Oper} {a : Act} {Q : Exit → Act → World → Prop}
    (hg : o.guard = none) (s x : Operand) (t : TypeId) (hop : o.op = Op.call { callee := Callee.builtin Builtin.append, args := #[s, x], argTypes := #[t, t] })
    (base : Nat) (e : TypeId) (i : TypeInfo) (z : Value) (size bytes : Nat) (h1 : P.underlying t = some (.slice e)) (h2 : P.info? e = some i) (h3 : i.zero = some z) (h4 : i.size = size) (h5 : i.bytes = bytes) (h6 : z.cells.size = size) (h7 : 0 < size)
    (v : Value) (n : Nat) (xs : List Value) (hs : a.eval s = v) (hown : w.ownsRow base e size v n xs)
    (ad : Addr) (m c : Nat) (news : List Value) (hx : a.eval x = .slice (some ad) m c) (hn : news.length = m * size) (hc : ∀ j u, news[j]? = some u → w.cell? (ad.add j) = some u) (h1c : ∀ u ∈ news, u.oneCell' = true)
    (hm : 0 < m) (b1 : n + m ≤ maxLen) (b2 : (n + m) * bytes ≤ 140737488355328) (hb : base ≤ w.heap.size)
    (hK : ∀ v' w', w'.ownsRow base e size v' (n + m) (xs ++ news) → w.grownBy w' v.ownBlock → (v'.ownBlock = v.ownBlock ∨ ∀ g, v'.ownBlock = some g → w.heap.size ≤ g) → wpList P ops Q rest (a.put o.dst v') w') :
    wpList P ops Q (o :: rest) a w := by
  have hown0 := hown
  obtain ⟨hl, h⟩ := hown
  rcases h with ⟨rfl, rfl⟩ | ⟨g, cap, cur, rfl, hbg, hg', hnc, hcm, hcs, htake⟩
  · refine wpList_append_grows w hg s x t hop e i z size bytes h1 h2 h3 h4 h5 h6 h7 none 0 0 xs hs (fun _ => ⟨rfl, rfl⟩) hl (fun b hb => by cases hb) ad m c news hx hn hc h1c (by omega) b1 b2 fun v' w' ho hgr => ?_
    exact hK v' w' (owns_base ho hb) (grown_any hgr _) (.inr fun g hg => (ho.lt g hg).1)
  · by_cases hfit : n + m ≤ cap
    · exact wpList_append_fits w hg s x t hop base e i size h1 h2 h4 g n cap xs hs hown0 ad m c news hx hn hc h1c hfit fun w' ho hgr => hK _ w' ho hgr (.inl rfl)
    · refine wpList_append_grows w hg s x t hop e i z size bytes h1 h2 h3 h4 h5 h6 h7 (some ⟨g, 0, none⟩) n cap xs hs (fun h => by cases h) hl (fun b hb j u hu => ?_) ad m c news hx hn hc h1c (by omega) b1 b2 fun v' w' ho hgr => ?_
      · obtain rfl := Option.some.inj hb
        exact hown0.cells rfl j u hu
      · exact hK v' w' (owns_base ho hb) (grown_any hgr _) (.inr fun g hg => (ho.lt g hg).1)
/-- Two rows that lie apart. -/
def Off2 (v u : Value) : Prop := v.ownBlock = none ∨ v.ownBlock ≠ u.ownBlock
theorem Off2.symm {v u : Value} (h : Off2 v u) : Off2 u v := by
  unfold Off2 at *
  rcases h with h | h
  · rw [h]
    cases u.ownBlock with
    | none => exact .inl rfl
    | some g => exact .inr (by simp)
  · exact .inr (Ne.symm h)
theorem Off2.step {w : World} {base n size : Nat} {e : TypeId} {v u u' : Value} {xs : List Value} (h : Off2 v u) (hv : w.ownsRow base e size v n xs) (hu : u'.ownBlock = u.ownBlock ∨ ∀ g, u'.ownBlock = some g → w.heap.size ≤ g) : Off2 v u' := by
  unfold Off2 at *
  rcases hu with hu | hu
  · rw [hu]; exact h
  · cases hb : v.ownBlock with
    | none => exact .inl rfl
    | some g =>
      refine .inr fun he => ?_
      have h1 := hu g he.symm
      have h2 := (hv.lt g hb).2
      omega
end Go.Proofs.YtekhhekkepijoaaGreatDoor

namespace Go.Proofs.YtekhhekkepijoaaGreatDoor
set_option linter.unusedVariables false
set_option linter.unusedVariables false
open Ieee

/-- The word of a whole number with a sign (a 0 has one, too). -/
def fb (neg : Bool) (c : Nat) : Nat := double.nearest neg c 0
theorem binade_d : double.binade = 4503599627370496 := by decide +kernel
theorem inf_d : double.infRung = 9218868437227405312 := by decide +kernel
theorem sign_d : double.signWeight = 9223372036854775808 := by decide +kernel
theorem least_d : double.leastPlace = -1074 := by decide +kernel

theorem cut_zero (neg : Bool) (n : Nat) : Toward.even.cut neg n 0 = n := by
  unfold Toward.cut
  simp [Nat.mod_one]
theorem cut_exact (neg : Bool) (n d : Nat) (hn : n ≠ 0) (hd : d ≤ (n * 2 ^ d).log2 + 2) : Toward.even.cut neg (n * 2 ^ d) d = n := by
  unfold Toward.cut
  have hp : 0 < 2 ^ d := Nat.two_pow_pos d
  simp only [Nat.min_eq_left hd, Nat.one_shiftLeft, Nat.mul_div_cancel _ hp, Nat.mul_mod_left]
  simp
theorem log2_mul (c k : Nat) (h : c ≠ 0) : (c * 2 ^ k).log2 = c.log2 + k := by
  rw [Nat.log2_eq_iff (by have := Nat.two_pow_pos k; exact Nat.mul_ne_zero h (by omega))]
  have := Nat.log2_self_le h
  have h2 := @Nat.lt_log2_self c
  constructor
  · rw [Nat.pow_add]; exact Nat.mul_le_mul_right _ this
  · rw [show c.log2 + k + 1 = (c.log2 + 1) + k by omega, Nat.pow_add]
    exact Nat.mul_lt_mul_of_pos_right h2 (Nat.two_pow_pos k)
theorem log2_le {c : Nat} (h : c < 9007199254740992) : c.log2 ≤ 52 := by
  by_cases h0 : c = 0
  · subst h0; decide
  · have h1 := Nat.log2_self_le h0
    by_cases h2 : c.log2 ≤ 52
    · exact h2
    · have h3 : 2 ^ 53 ≤ 2 ^ c.log2 := Nat.pow_le_pow_right (by omega) (by omega)
      omega
/-- Whatever the place at which a whole number is told, the word is the same. -/
theorem nearest_form (neg : Bool) (c k : Nat) (h0 : c ≠ 0) (h : c < 9007199254740992) : double.nearest neg (c * 2 ^ k) (-(k : Int)) = double.word neg ((c.log2 + 1022) * 4503599627370496 + c * 2 ^ (52 - c.log2)) := by
  have hl := log2_le h
  have hm : c * 2 ^ k ≠ 0 := Nat.mul_ne_zero h0 (by have := Nat.two_pow_pos k; omega)
  have hlog := log2_mul c k h0
  unfold Format.nearest
  rw [if_neg hm, hlog, least_d, binade_d, inf_d]
  have e1 : max (-(k : Int) + ((c.log2 + k : Nat) : Int) - (double.fractionBits : Int)) (-1074) = (c.log2 : Int) - 52 := by
    have : (double.fractionBits : Int) = 52 := rfl
    omega
  rw [e1]
  dsimp only
  have e2 : ((c.log2 : Int) - 52 - -1074).toNat = c.log2 + 1022 := by omega
  rw [e2]
  have hk : c * 2 ^ (52 - c.log2) ≤ 9007199254740991 := by
    have h2 := @Nat.lt_log2_self c
    have h3 : c * 2 ^ (52 - c.log2) < 2 ^ (c.log2 + 1) * 2 ^ (52 - c.log2) := Nat.mul_lt_mul_of_pos_right h2 (Nat.two_pow_pos _)
    rw [← Nat.pow_add, show c.log2 + 1 + (52 - c.log2) = 53 by omega] at h3
    omega
  have e3 : Toward.even.cut neg ((c * 2 ^ k) <<< (-(k : Int) - ((c.log2 : Int) - 52)).toNat) ((c.log2 : Int) - 52 - -(k : Int)).toNat = c * 2 ^ (52 - c.log2) := by
    by_cases hkl : k ≤ 52 - c.log2
    · rw [show ((c.log2 : Int) - 52 - -(k : Int)).toNat = 0 by omega, cut_zero, show (-(k : Int) - ((c.log2 : Int) - 52)).toNat = 52 - c.log2 - k by omega, Nat.shiftLeft_eq, Nat.mul_assoc, ← Nat.pow_add, show k + (52 - c.log2 - k) = 52 - c.log2 by omega]
    · rw [show (-(k : Int) - ((c.log2 : Int) - 52)).toNat = 0 by omega, Nat.shiftLeft_eq, Nat.pow_zero, Nat.mul_one]
      obtain ⟨d, hd⟩ : ∃ d, k = (52 - c.log2) + d := ⟨k - (52 - c.log2), by omega⟩
      rw [show ((c.log2 : Int) - 52 - -(k : Int)).toNat = d by omega, show c * 2 ^ k = c * 2 ^ (52 - c.log2) * 2 ^ d by rw [hd, Nat.pow_add, Nat.mul_assoc]]
      refine cut_exact neg _ d (Nat.mul_ne_zero h0 (by have := Nat.two_pow_pos (52 - c.log2); omega)) ?_
      rw [Nat.mul_assoc, ← Nat.pow_add, log2_mul c _ h0]
      omega
  rw [e3]
  congr 1
  clear e1 e2 e3 hlog hm
  generalize c * 2 ^ (52 - c.log2) = m at *
  generalize c.log2 = L at *
  exact Nat.min_eq_left (by omega)
theorem write_fb (neg : Bool) (c k : Nat) (h : c < 9007199254740992) : double.write (.number neg (c * 2 ^ k) (-(k : Int))) = fb neg c := by
  unfold fb
  show double.nearest neg (c * 2 ^ k) (-(k : Int)) = double.nearest neg c 0
  by_cases h0 : c = 0
  · subst h0
    unfold Format.nearest
    simp
  · rw [nearest_form neg c k h0 h]
    have := nearest_form neg c 0 h0 h
    simp only [Nat.pow_zero, Nat.mul_one, Int.natCast_zero, Int.neg_zero] at this
    exact this.symm
theorem read_word (neg : Bool) (r : Nat) (h : r < 9223372036854775808) : (double.word neg r / double.signWeight % 2 == 1) = neg ∧ double.word neg r % double.signWeight = r := by
  rw [sign_d]
  unfold Format.word
  rw [sign_d]
  cases neg
  · simp only [if_false, Bool.false_eq_true]
    refine ⟨?_, by omega⟩
    rw [show r / 9223372036854775808 = 0 by omega]
    rfl
  · simp only [if_true]
    refine ⟨?_, by omega⟩
    rw [show (9223372036854775808 + r) / 9223372036854775808 = 1 by omega]
    rfl
/-- What the word of a whole number reads. -/
theorem read_fb (neg : Bool) (c : Nat) (h : c < 9007199254740992) : ∃ k : Nat, double.read (fb neg c) = .number neg (c * 2 ^ k) (-(k : Int)) := by
  by_cases h0 : c = 0
  · subst h0
    obtain ⟨k, hk⟩ : ∃ k : Nat, k = 1074 := ⟨_, rfl⟩
    refine ⟨k, ?_⟩
    have e : fb neg 0 = double.word neg 0 := by unfold fb Format.nearest; simp
    obtain ⟨r1, r2⟩ := read_word neg 0 (by omega)
    rw [e]
    unfold Format.read
    dsimp only
    rw [r1, r2, binade_d, least_d, if_pos (by omega), Nat.zero_mul, hk]
    rfl
  · have hl := log2_le h
    have e : fb neg c = double.word neg ((c.log2 + 1022) * 4503599627370496 + c * 2 ^ (52 - c.log2)) := by
      have := nearest_form neg c 0 h0 h
      simp only [Nat.pow_zero, Nat.mul_one, Int.natCast_zero, Int.neg_zero] at this
      exact this
    have g1 : 4503599627370496 ≤ c * 2 ^ (52 - c.log2) := by
      have h1 := Nat.log2_self_le h0
      have h3 := Nat.mul_le_mul_right (2 ^ (52 - c.log2)) h1
      rw [← Nat.pow_add, show c.log2 + (52 - c.log2) = 52 by omega] at h3
      omega
    have g2 : c * 2 ^ (52 - c.log2) < 9007199254740992 := by
      have h2 := @Nat.lt_log2_self c
      have h3 : c * 2 ^ (52 - c.log2) < 2 ^ (c.log2 + 1) * 2 ^ (52 - c.log2) := Nat.mul_lt_mul_of_pos_right h2 (Nat.two_pow_pos _)
      rw [← Nat.pow_add, show c.log2 + 1 + (52 - c.log2) = 53 by omega] at h3
      omega
    refine ⟨52 - c.log2, ?_⟩
    generalize c * 2 ^ (52 - c.log2) = m at *
    generalize c.log2 = L at *
    obtain ⟨r1, r2⟩ := read_word neg ((L + 1022) * 4503599627370496 + m) (by omega)
    rw [e]
    unfold Format.read
    dsimp only
    rw [r1, r2, binade_d, inf_d, least_d, if_neg (by omega), if_pos (by omega)]
    have e1 : ((L + 1022) * 4503599627370496 + m) % 4503599627370496 = m - 4503599627370496 := by omega
    have e2 : ((L + 1022) * 4503599627370496 + m) / 4503599627370496 = L + 1023 := by omega
    have a1 : 4503599627370496 + (m - 4503599627370496) = m := by omega
    have a2 : -1074 + ((L + 1023 - 1 : Nat) : Int) = -((52 - L : Nat) : Int) := by omega
    rw [e1, e2, a1, a2]

/-- The whole number of a sign and a size. -/
def sg (s : Bool) (m : Nat) : Int := if s then -(m : Int) else m
theorem signed_up (s : Bool) (m i n : Nat) : signed s (m * 2 ^ i) n = sg s m * 2 ^ (i + n) := by
  unfold signed sg
  rw [Nat.shiftLeft_eq, Nat.mul_assoc, ← Nat.pow_add]
  cases s <;> simp [Int.natCast_mul, Int.natCast_pow, Int.neg_mul]
theorem sum_fb (s t : Bool) (m n : Nat) (i j : Nat) : (Datum.number s (m * 2 ^ i) (-(i : Int))).sum (.number t (n * 2 ^ j) (-(j : Int))) =
    some (.number (if sg s m + sg t n = 0 then s && t else sg s m + sg t n < 0) ((sg s m + sg t n).natAbs * 2 ^ (max i j)) (-((max i j : Nat) : Int))) := by
  unfold Datum.sum
  dsimp only
  have e0 : min (-(i : Int)) (-(j : Int)) = -((max i j : Nat) : Int) := by omega
  have e1 : (-(i : Int) - -((max i j : Nat) : Int)).toNat = max i j - i := by omega
  have e2 : (-(j : Int) - -((max i j : Nat) : Int)).toNat = max i j - j := by omega
  rw [e0, e1, e2, signed_up, signed_up, show i + (max i j - i) = max i j by omega, show j + (max i j - j) = max i j by omega, ← Int.add_mul]
  generalize max i j = k
  have hp : (0 : Int) < 2 ^ k := Int.pow_pos (by omega)
  have z : (sg s m + sg t n) * 2 ^ k = 0 ↔ sg s m + sg t n = 0 := by
    constructor
    · intro h
      rcases Int.mul_eq_zero.1 h with h | h
      · exact h
      · omega
    · intro h; rw [h, Int.zero_mul]
  have l : (sg s m + sg t n) * 2 ^ k < 0 ↔ sg s m + sg t n < 0 := by
    constructor
    · intro h
      by_cases h' : sg s m + sg t n < 0
      · exact h'
      · have := Int.mul_nonneg (show 0 ≤ sg s m + sg t n by omega) (show 0 ≤ (2 : Int) ^ k by omega)
        omega
    · intro h
      have := Int.mul_pos (show 0 < -(sg s m + sg t n) by omega) hp
      rw [Int.neg_mul] at this
      omega
  have a : ((sg s m + sg t n) * 2 ^ k).natAbs = (sg s m + sg t n).natAbs * 2 ^ k := by
    rw [Int.natAbs_mul, Int.natAbs_pow]
    rfl
  simp only [z, l, a]
theorem add_fb (s t : Bool) (m n : Nat) (hm : m < 9007199254740992) (hn : n < 9007199254740992) (h : (sg s m + sg t n).natAbs < 9007199254740992) :
    double.add (fb s m) (fb t n) = some (fb (if sg s m + sg t n = 0 then s && t else sg s m + sg t n < 0) (sg s m + sg t n).natAbs) := by
  obtain ⟨i, e1⟩ := read_fb s m hm
  obtain ⟨j, e2⟩ := read_fb t n hn
  unfold Format.add
  rw [e1, e2, sum_fb, Option.map_some, write_fb _ _ _ h]
/-! Whole numbers whose 0 has no sign. -/
def fw (n : Int) : Nat := fb (n < 0) n.natAbs
end Go.Proofs.YtekhhekkepijoaaGreatDoor

namespace Go.Proofs.YtekhhekkepijoaaGreatDoor
set_option linter.unusedVariables false
open Ieee

/-- The sign of a whole number, of a 0 as told. -/
def zn (n : Int) (z : Bool) : Bool := if n = 0 then z else decide (n < 0)
def ww (n : Int) (z : Bool) : Nat := fb (zn n z) n.natAbs
theorem ww_fw (n : Int) : ww n false = fw n := by
  unfold ww fw zn
  by_cases h : n = 0
  · subst h; rfl
  · rw [if_neg h]
theorem sg_zn (n : Int) (z : Bool) : sg (zn n z) n.natAbs = n := by
  unfold zn sg
  by_cases h : n = 0
  · subst h; cases z <;> rfl
  · rw [if_neg h]
    by_cases h2 : n < 0 <;> simp [h2] <;> omega
theorem add_ww {a b : Int} (s t : Bool) (ha : -9007199254740991 ≤ a ∧ a ≤ 9007199254740991) (hb : -9007199254740991 ≤ b ∧ b ≤ 9007199254740991) (h : -9007199254740991 ≤ a + b ∧ a + b ≤ 9007199254740991) : double.add (ww a s) (ww b t) = some (ww (a + b) (zn a s && zn b t)) := by
  have e := add_fb (zn a s) (zn b t) a.natAbs b.natAbs (by omega) (by omega) (by rw [sg_zn, sg_zn]; omega)
  rw [sg_zn, sg_zn] at e
  exact e
theorem ofInt_ww (n : Int) : floatOfInt .f64 n = ww n false := by rw [ww_fw]; rfl
/-! Words of any kind. -/
/-- Within the bounds, by the comparisons that are made. -/
def inLo (x : Nat) : Bool := double.order 13920626448202203136 x == some .lt || double.order 13920626448202203136 x == some .eq
def inHi (x : Nat) : Bool := double.order x 4697254411347427328 == some .lt || double.order x 4697254411347427328 == some .eq
/-- Without what is behind the point. -/
def truncw (x : Nat) : Nat := double.write ((double.read x).integral .zero)
def isT (x : Nat) : Bool := double.order x (truncw x) == some .eq
def wp (x : Nat) : Bool := inLo x && (inHi x && isT x)
theorem lit_one : 4607182418800017408 = ww 1 false := by decide +kernel
theorem lit_zero : 0 = ww 0 false := by decide +kernel
end Go.Proofs.YtekhhekkepijoaaGreatDoor

namespace Go.Proofs.YtekhhekkepijoaaGreatDoor
set_option linter.unusedVariables false
open Go.ChangeShapes Go.WideShapes Go.ChangeAt Go.RowKit

set_option maxHeartbeats 4000000 in
theorem pick_c (n m : Int) (hn : -9223372036854775808 ≤ n) (hn' : n ≤ 9223372036854775807) (hm : 0 < m) (hm' : m ≤ 9223372036854775807) (W : World) :
    Calls Tryz.prog 20 #[.int .i64 n, .int .i64 m] W fun e w' => e = .returned (.int .i64 (n % m)) ∧ W = w' := by
  have h1 := Int.emod_nonneg n (show m ≠ 0 by omega)
  have h2 := Int.emod_lt_of_pos n hm
  by_cases h0 : 0 ≤ n
  · have h3 : ¬ n % m < 0 := by omega
    go_enter Tryz.func20, Tryz.ntmps20
    go_wp2_with fail
    go_ret
    exact ⟨rfl, rfl⟩
  · have h4 : n.tmod m = -((-n).tmod m) := by rw [Int.neg_tmod]; omega
    have h5 : (-n).tmod m = (-n) % m := Int.tmod_eq_emod_of_nonneg (by omega)
    have h6 := Int.emod_nonneg (-n) (show m ≠ 0 by omega)
    have h7 := Int.emod_lt_of_pos (-n) hm
    have h8 : n % m = if n.tmod m < 0 then n.tmod m + m else n.tmod m := by
      have h9 := Int.tmod_eq_emod (a := n) (b := m)
      have h10 : m.natAbs = m := by omega
      split at h9 <;> split <;> omega
    rw [h8]
    clear h8
    by_cases h11 : n.tmod m < 0
    · rw [if_pos h11]
      have hb : -m < n.tmod m := by omega
      clear h4 h5 h6 h7 h1 h2
      go_enter Tryz.func20, Tryz.ntmps20
      go_wp2_with fail
      go_ret
      exact ⟨rfl, rfl⟩
    · rw [if_neg h11]
      clear h4 h5 h6 h7 h1 h2
      go_enter Tryz.func20, Tryz.ntmps20
      go_wp2_with fail
      go_ret
      exact ⟨rfl, rfl⟩

end Go.Proofs.YtekhhekkepijoaaGreatDoor

namespace Go.Proofs.YtekhhekkepijoaaGreatDoor
set_option linter.unusedVariables false
open Go.ChangeShapes Go.WideShapes Go.ChangeAt Go.RowKit

/-- A complex number of whole parts, with the signs of its zeros. -/
structure Cx where
  x : Int
  s : Bool
  y : Int
  t : Bool
@[reducible] def cxV (c : Cx) : Value := .complex .f64 (ww c.x c.s) (ww c.y c.t)
/-- Any complex number. -/
structure Cw where
  a : Nat
  b : Nat
@[reducible] def cwV (c : Cw) : Value := .complex .f64 c.a c.b
structure Pt where
  x : Int
  y : Int
@[reducible] def ptV (p : Pt) : Value := .agg #[.int .i64 p.x, .int .i64 p.y]
structure Bm where
  n : Cx
  d : Cx
@[reducible] def bmV (b : Bm) : Value := .agg #[cxV b.n, cxV b.d]
structure Bp where
  n : Pt
  d : Pt
@[reducible] def bpV (b : Bp) : Value := .agg #[.int .i64 b.n.x, .int .i64 b.n.y, .int .i64 b.d.x, .int .i64 b.d.y]
structure M4 where
  a : Int
  b : Int
  c : Int
  d : Int
@[reducible] def m4V (m : M4) : Value := .agg #[.int .i64 m.a, .int .i64 m.b, .int .i64 m.c, .int .i64 m.d]
@[go_sem] theorem fmt64 : FloatKind.f64.format = Ieee.double := rfl
@[go_sem] theorem unary_negf (k : FloatKind) (b : Nat) : Op.unary .neg (.float k b) = pure (.float k (Op.negFloat k b)) := rfl
section
variable (P : Program) (w : World) (a : Addr) (m : Mode)
@[go_sem] theorem run_store_complex (k : FloatKind) (x y : Nat) : (store a (.complex k x y) m).run P w = stored P w a (.complex k x y) m := run_store P w a _ m rfl
@[go_sem] theorem run_store_float (k : FloatKind) (x : Nat) : (store a (.float k x) m).run P w = stored P w a (.float k x) m := run_store P w a _ m rfl
end


attribute [go_sem] ofInt_ww

/-! What operations on whole parts give. -/
section
variable {P : Program}
@[reducible] def In52 (n : Int) : Prop := -4503599627370495 ≤ n ∧ n ≤ 4503599627370495
theorem cadd {a b c d : Int} (s t u v : Bool) (ha : In52 a) (hb : In52 b) (hc : In52 c) (hd : In52 d) (T : TypeId) (w : World) :
    (binOp .add T (.complex .f64 (ww a s) (ww b t)) (.complex .f64 (ww c u) (ww d v))).run P w = .ok (.complex .f64 (ww (a + c) (zn a s && zn c u)) (ww (b + d) (zn b t && zn d v))) w := by
  refine run_complex_sum w .add (.inl rfl) T .f64 _ _ _ _ _ _ ?_
  have e1 := add_ww (a := a) (b := c) s u (by omega) (by omega) (by omega)
  have e2 := add_ww (a := b) (b := d) t v (by omega) (by omega) (by omega)
  unfold cSumBits floatBits
  show ((Ieee.double.add (ww a s) (ww c u)).bind fun re => (Ieee.double.add (ww b t) (ww d v)).bind fun im => some (re, im)) = _
  rw [e1, e2]
  rfl
theorem fadd {a c : Int} (s u : Bool) (ha : In52 a) (hc : In52 c) (T : TypeId) (w : World) :
    (binOp .add T (.float .f64 (ww a s)) (.float .f64 (ww c u))).run P w = .ok (.float .f64 (ww (a + c) (zn a s && zn c u))) w := by
  refine run_float_arith w .add T .f64 _ _ _ ?_
  exact add_ww (a := a) (b := c) s u (by omega) (by omega) (by omega)
end
@[go_sem] theorem and3 (n : Int) : _root_.Go.bits .and .i64 n 3 = n % 4 := by
  have h3 : (BitVec.ofInt 64 3).toNat = 2 ^ 2 - 1 := by decide
  have key : (BitVec.ofInt 64 n &&& BitVec.ofInt 64 3).toNat = (n % ((2 ^ 64 : Nat) : Int)).toNat % 2 ^ 2 := by
    rw [BitVec.toNat_and, BitVec.toNat_ofInt, h3, Nat.and_two_pow_sub_one_eq_mod]
  show IntKind.i64.wrap ((BitVec.ofInt 64 n &&& BitVec.ofInt 64 3).toNat : Nat) = n % 4
  rw [key, IntKind.wrap_i64]
  omega

/-! In plain numbers. -/
@[reducible] def cxP (p : Pt) : Value := .complex .f64 (ww p.x false) (ww p.y false)

structure Fx where
  n : Int
  z : Bool
@[reducible] def fxV (f : Fx) : Value := .float .f64 (ww f.n f.z)

end Go.Proofs.YtekhhekkepijoaaGreatDoor
