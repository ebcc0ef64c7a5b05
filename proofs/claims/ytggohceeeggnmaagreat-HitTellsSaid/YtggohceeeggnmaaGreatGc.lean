/-
  The contracts of package num, and of the plain saying of chapter 1.
  The contracts of package iv: each call answers what the plain interval of the same name is, and makes no more than memory of its own.
  Slices of intervals: which intervals a slice's cells hold in a world; sums of powers and slopes, in plain numbers.
  A slice of numbers among the arguments; a row that the call itself makes and appends to, told apart from others.
  Whole numbers as floating-point numbers of 64 bits, in which they are exact: what a word of a whole number reads, what sums, products, comparisons of such give.
  Words of whole numbers with a 0 of either sign; what a number is that is its own whole part; operations on complex numbers of such parts, as the walk meets them.
  The contracts of the numbers that are handed in: any number as a number of steps.
  The calls of package gauss, at whole numbers and at those that are none.
  The contracts of what the statements of chapter 1 lean on: the plain saying of the chapter, and the numbers that are handed in.
  The contracts of the plain saying of chapter 2: each call answers what the plain interval of the same name is.
  The contracts of the intervals that are handed in, of raw numbers.
-/
import Derived.Test.YtggohceeeggnmaaGreatRows
import Derived.Test.YtggohceeeggnmaaGreatGa
import Derived.WalkKit
import Derived.ProofKit
import Derived.OpenShut
import Derived.Outline
import Derived.Lib.Hide
import Derived.Test.YtggohceeeggnmaaGreatGb
import Derived.ArgAppend
import Derived.Carry
import Derived.Laws.FloatArith
import Derived.Laws.ComplexArith
import Derived.Laws.Cover2
import Derived.Laws.Cover3
import Derived.Laws.Externs
import Derived.WalkLawsBesides

namespace Go.Proofs.YtggohceeeggnmaaGreat
set_option linter.unusedVariables false
open Go.ChangeShapes Go.WideShapes Go.ChangeAt Go.RowKit

theorem ret_int {k : IntKind} {a b : Int} (h : a = b) : Ending.returned (.int k a) = .returned (.int k b) := by rw [h]

set_option maxHeartbeats 4000000 in
theorem floor_c (a b : Int) (ha : -9223372036854775808 ≤ a) (ha' : a ≤ 9223372036854775807) (hn : ¬ (a = -9223372036854775808 ∧ b = -1)) (W : World) :
    Calls Tryz.prog 97 #[.int .i64 a, .int .i64 b] W fun e w' => e = .returned (.int .i64 (a.fdiv b)) ∧ W = w' := by
  have hb := tdiv_bd a b ha ha' hn
  clear hn
  by_cases h0 : b = 0
  · subst h0
    go_enter Tryz.func97, Tryz.ntmps97
    go_wp2_with fail
    go_ret
    exact ⟨ret_int (by simp), rfl⟩
  · have hf := fdiv_of a b h0
    by_cases hr : a.tmod b = 0
    · rw [if_neg (by simp [hr])] at hf
      rw [hf]
      clear hf
      go_enter Tryz.func97, Tryz.ntmps97
      go_wp2_with fail
      go_ret
      exact ⟨rfl, rfl⟩
    · have hb2 := tdiv_bd2 a b ha ha' hr
      have hr2 : 0 ≤ a → ¬ a % b = 0 := fun h => by rw [← Int.tmod_eq_emod_of_nonneg h]; exact hr
      by_cases h1 : a < 0 <;> by_cases h2 : b < 0
      all_goals
        first
        | (rw [if_neg (fun h => h.2 (by omega))] at hf)
        | (rw [if_pos ⟨hr, by omega⟩] at hf)
        rw [hf]
        clear hf
        first
        | (have hr3 := hr2 (by omega); clear hr2)
        | clear hr2
        go_enter Tryz.func97, Tryz.ntmps97
        go_wp2_with fail
        go_ret
        exact ⟨rfl, rfl⟩

set_option maxHeartbeats 4000000 in
theorem in_c (n : Int) (W : World) :
    Calls Tryz.prog 54 #[.int .i64 n] W fun e w' => e = .returned (.bool (isIn n)) ∧ W = w' := by
  by_cases h1 : -1073741824 ≤ n <;> by_cases h2 : n ≤ 1073741824
  all_goals
    go_enter Tryz.func54, Tryz.ntmps54
    go_wp2_with fail
    go_ret
    exact ⟨by simp [isIn, h1, h2], rfl⟩

set_option maxHeartbeats 4000000 in
theorem number_c (n : Int) (W : World) :
    Calls Tryz.prog 135 #[.int .i64 n] W fun e w' => e = .returned (.tuple #[.int .i64 (told n).1, .bool (told n).2]) ∧ W = w' := by
  by_cases h1 : isIn n = true
  all_goals
    go_enter Tryz.func135, Tryz.ntmps135
    go_wp2_with (first | (go_at_call 54; (with_reducible refine (in_c _ _).mono ?_); rintro e w' ⟨rfl, rfl⟩))
    go_ret2
    exact ⟨by simp [told, h1], rfl⟩


set_option maxHeartbeats 4000000 in
theorem quotient_c (a b : Int) (up : Bool) (ha : -4611686018427387904 ≤ a) (ha' : a ≤ 4611686018427387904) (W : World) :
    Calls Tryz.prog 136 #[.int .i64 a, .int .i64 b, .bool up] W fun e w' => e = .returned (.int .i64 (quo a b up)) ∧ W = w' := by
  have hq : -4611686018427387904 ≤ (-a).fdiv b ∧ (-a).fdiv b ≤ 4611686018427387904 := by have := fdiv_abs (-a) b; omega
  cases up
  all_goals
    go_enter Tryz.func136, Tryz.ntmps136
    go_wp2_with (first | (go_at_call 97; (with_reducible refine (floor_c _ _ (by omega) (by omega) (by omega) _).mono ?_); rintro e w' ⟨rfl, rfl⟩))
    go_ret
    exact ⟨ret_int (by simp [quo]), rfl⟩

set_option maxHeartbeats 4000000 in
theorem div_c (a b : Int) (up : Bool) (W : World) :
    Calls Tryz.prog 122 #[.int .i64 a, .int .i64 b, .bool up] W fun e w' => e = .returned (.tuple #[.int .i64 (divN a b up).1, .bool (divN a b up).2]) ∧ W = w' := by
  by_cases ha : isIn a = true <;> by_cases hb : isIn b = true <;> by_cases h0 : (b == 0) = true
  case neg =>
    have h1 := isIn_iff.1 ha
    have e : divN a b up = told (quo (a * 65536) b up) := by simp only [divN, ha, hb, h0]; rfl
    rw [e]
    clear e
    go_enter Tryz.func122, Tryz.ntmps122
    go_wp2_with (first | (go_at_call 54; (with_reducible refine (in_c _ _).mono ?_); rintro e w' ⟨rfl, rfl⟩) | (go_at_call 135; (with_reducible refine (number_c _ _).mono ?_); rintro e w' ⟨rfl, rfl⟩) | (go_at_call 136; (with_reducible refine (quotient_c _ _ _ (by omega) (by omega) _).mono ?_); rintro e w' ⟨rfl, rfl⟩))
    go_ret2
    exact ⟨rfl, rfl⟩
  all_goals
    have e : divN a b up = (0, false) := by simp only [divN, ha, hb, h0]; rfl
    rw [e]
    clear e
    go_enter Tryz.func122, Tryz.ntmps122
    go_wp2_with (first | (go_at_call 54; (with_reducible refine (in_c _ _).mono ?_); rintro e w' ⟨rfl, rfl⟩) | (go_at_call 135; (with_reducible refine (number_c _ _).mono ?_); rintro e w' ⟨rfl, rfl⟩) | (go_at_call 136; (with_reducible refine (quotient_c _ _ _ (by omega) (by omega) _).mono ?_); rintro e w' ⟨rfl, rfl⟩))
    go_ret2
    exact ⟨rfl, rfl⟩

set_option maxHeartbeats 4000000 in
theorem floorRoot_c (n : Int) (h0 : 0 ≤ n) (W : World) :
    Calls Tryz.prog 134 #[.int .i64 n] W fun e w' => e = .returned (.int .i64 (flRoot n)) ∧ W = w' := by
  go_enter Tryz.func134, Tryz.ntmps134
  go_wp2_with fail
  go_loop [3, 4] (fun r b => ∃ (k : Nat) (x : Int), k ≤ 24 ∧ b = .int .i64 (bitv k) ∧ r = .int .i64 x ∧ 0 ≤ x ∧ x + 2 * bitv k ≤ 16777216 ∧ rootGo n k x = flRoot n) (fun _ b => (intOf b).toNat)
  case atStart => exact ⟨24, 0, by omega, rfl, rfl, by omega, by decide, rfl⟩
  case round =>
    obtain ⟨k, x, hk, rfl, rfl, hx, hx2, hg⟩ := hrel
    cases k with
    | zero =>
      have hb : bitv 0 = 0 := rfl
      rw [hb]
      go_wp2
      go_ret
      exact ⟨ret_int hg, rfl⟩
    | succ k =>
      have b1 := bitv_pos k
      have b2 := bitv_le k (by omega)
      have b3 := bitv_half k
      have b4 := mul_bd (a := x + bitv (k + 1)) (b := x + bitv (k + 1)) (A := 16777216) (B := 16777216) (by omega) (by omega)
      rw [rootGo_succ] at hg
      generalize bitv (k + 1) = c at *
      have HB := Lib.hid b3
      clear b3
      have HG := Lib.hid hg
      clear hg
      by_cases hc : (x + c) * (x + c) ≤ n
      · go_wp2
        go_round
        case rel => 
          exact ⟨k, x + c, by omega, by rw [← HB.out], rfl, by omega, by have := HB.out; omega, by have := HG.out; rw [if_pos hc] at this; exact this⟩
        case measure => simp [intOf]; omega
      · go_wp2
        go_round
        case rel => exact ⟨k, x, by omega, by rw [← HB.out], rfl, by omega, by have := HB.out; omega, by have := HG.out; rw [if_neg hc] at this; exact this⟩
        case measure => simp [intOf]; omega


set_option maxHeartbeats 4000000 in
theorem root_c (a : Int) (up : Bool) (W : World) :
    Calls Tryz.prog 121 #[.int .i64 a, .bool up] W fun e w' => e = .returned (.tuple #[.int .i64 (rootN a up).1, .bool (rootN a up).2]) ∧ W = w' := by
  by_cases ha : isIn a = true <;> by_cases h0 : a < 0
  case neg =>
    have h1 := isIn_iff.1 ha
    have ⟨b1, b2⟩ := in_root ha h0
    have b3 := mul_bd (a := flRoot (a * 65536)) (b := flRoot (a * 65536)) (A := 8388608) (B := 8388608) (by omega) (by omega)
    have b4 := flRoot_bd (a * 65536) (by omega) (by omega)
    have e : rootN a up = told (upRoot (a * 65536) up) := by simp [rootN, ha, h0]
    rw [e]
    clear e
    cases up
    · have e : upRoot (a * 65536) false = flRoot (a * 65536) := by simp [upRoot]
      rw [e]
      clear e
      go_enter Tryz.func121, Tryz.ntmps121
      go_wp2_with (first | (go_at_call 54; (with_reducible refine (in_c _ _).mono ?_); rintro e w' ⟨rfl, rfl⟩) | (go_at_call 134; (with_reducible refine (floorRoot_c _ (by omega) _).mono ?_); rintro e w' ⟨rfl, rfl⟩) | (go_at_call 135; (with_reducible refine (number_c _ _).mono ?_); rintro e w' ⟨rfl, rfl⟩))
      go_ret2
      exact ⟨rfl, rfl⟩
    · by_cases hr : flRoot (a * 65536) * flRoot (a * 65536) < a * 65536
      · have e : upRoot (a * 65536) true = flRoot (a * 65536) + 1 := by
          rw [upRoot, if_pos]; simp; omega
        rw [e]
        clear e
        go_enter Tryz.func121, Tryz.ntmps121
        go_wp2_with (first | (go_at_call 54; (with_reducible refine (in_c _ _).mono ?_); rintro e w' ⟨rfl, rfl⟩) | (go_at_call 134; (with_reducible refine (floorRoot_c _ (by omega) _).mono ?_); rintro e w' ⟨rfl, rfl⟩) | (go_at_call 135; (with_reducible refine (number_c _ _).mono ?_); rintro e w' ⟨rfl, rfl⟩))
        go_ret2
        exact ⟨rfl, rfl⟩
      · have e : upRoot (a * 65536) true = flRoot (a * 65536) := by
          rw [upRoot, if_neg]; simp; omega
        rw [e]
        clear e
        go_enter Tryz.func121, Tryz.ntmps121
        go_wp2_with (first | (go_at_call 54; (with_reducible refine (in_c _ _).mono ?_); rintro e w' ⟨rfl, rfl⟩) | (go_at_call 134; (with_reducible refine (floorRoot_c _ (by omega) _).mono ?_); rintro e w' ⟨rfl, rfl⟩) | (go_at_call 135; (with_reducible refine (number_c _ _).mono ?_); rintro e w' ⟨rfl, rfl⟩))
        go_ret2
        exact ⟨rfl, rfl⟩
  all_goals
    have e : rootN a up = (0, false) := by simp [rootN, ha, h0]
    rw [e]
    clear e
    go_enter Tryz.func121, Tryz.ntmps121
    go_wp2_with (first | (go_at_call 54; (with_reducible refine (in_c _ _).mono ?_); rintro e w' ⟨rfl, rfl⟩) | (go_at_call 134; (with_reducible refine (floorRoot_c _ (by omega) _).mono ?_); rintro e w' ⟨rfl, rfl⟩) | (go_at_call 135; (with_reducible refine (number_c _ _).mono ?_); rintro e w' ⟨rfl, rfl⟩))
    go_ret2
    exact ⟨rfl, rfl⟩

end Go.Proofs.YtggohceeeggnmaaGreat

namespace Go.Proofs.YtggohceeeggnmaaGreat
set_option linter.unusedVariables false
open Go.ChangeShapes Go.WideShapes Go.ChangeAt Go.RowKit

/-- A field of an interval by value. -/
@[go_sem] theorem run_iv_lo (a : Iv) (w : World) : (Instr.field 27 (ivV a) 0).run Tryz.prog w = .ok (.int .i64 a.lo) w := by kernel_rfl
@[go_sem] theorem run_iv_hi (a : Iv) (w : World) : (Instr.field 27 (ivV a) 1).run Tryz.prog w = .ok (.int .i64 a.hi) w := by kernel_rfl
@[go_sem] theorem run_iv_no (a : Iv) (w : World) : (Instr.field 27 (ivV a) 2).run Tryz.prog w = .ok (.bool a.no) w := by kernel_rfl

set_option maxHeartbeats 4000000 in
theorem right_c (a : Iv) (W : World) :
    Calls Tryz.prog 13 #[ivV a] W fun e w' => e = .returned (.bool (ivRight a)) ∧ More W w' := by
  unfold ivRight
  cases h0 : a.no <;> cases h1 : isIn a.lo <;> cases h2 : isIn a.hi <;> cases h3 : decide (a.lo ≤ a.hi)
  all_goals
    go_enter Tryz.func13, Tryz.ntmps13
    go_wp2_with (first | (go_at_call 54; (with_reducible refine (in_c _ _).mono ?_); rintro e w' ⟨rfl, rfl⟩))
    go_returns
    exact ⟨rfl, (by repeat (first | exact More.refl _ | refine More.alloc ?_ _ | refine More.more ?_ _ | refine More.drew ?_ | refine More.drewN ?_ _))⟩

set_option maxHeartbeats 4000000 in
theorem none_c  (W : World) :
    Calls Tryz.prog 17 #[] W fun e w' => e = .returned (ivV ivNone) ∧ More W w' := by
  go_enter Tryz.func17, Tryz.ntmps17
  go_wp2_with fail
  go_returns
  exact ⟨rfl, (by repeat (first | exact More.refl _ | refine More.alloc ?_ _ | refine More.more ?_ _ | refine More.drew ?_ | refine More.drewN ?_ _))⟩

set_option maxHeartbeats 4000000 in
theorem of_c (a b : Int) (W : World) :
    Calls Tryz.prog 56 #[.int .i64 a, .int .i64 b] W fun e w' => e = .returned (ivV (ivOf a b)) ∧ More W w' := by
  unfold ivOf
  by_cases h : ivRight ⟨a, b, false⟩ = true
  · rw [if_pos h]
    go_enter Tryz.func56, Tryz.ntmps56
    go_wp2_with (first | (go_at_call 13; (with_reducible refine (right_c _ _).mono ?_); rintro e w' ⟨rfl, r, rfl⟩) | (go_at_call 13; (with_reducible refine (right_c ⟨_, _, _⟩ _).mono ?_); rintro e w' ⟨rfl, r, rfl⟩) | (go_at_call 17; (with_reducible refine (none_c _).mono ?_); rintro e w' ⟨rfl, r, rfl⟩))
    go_returns
    exact ⟨rfl, (by repeat (first | exact More.refl _ | refine More.alloc ?_ _ | refine More.more ?_ _ | refine More.drew ?_ | refine More.drewN ?_ _))⟩
  · rw [if_neg h]
    go_enter Tryz.func56, Tryz.ntmps56
    go_wp2_with (first | (go_at_call 13; (with_reducible refine (right_c _ _).mono ?_); rintro e w' ⟨rfl, r, rfl⟩) | (go_at_call 13; (with_reducible refine (right_c ⟨_, _, _⟩ _).mono ?_); rintro e w' ⟨rfl, r, rfl⟩) | (go_at_call 17; (with_reducible refine (none_c _).mono ?_); rintro e w' ⟨rfl, r, rfl⟩))
    go_returns
    exact ⟨rfl, (by repeat (first | exact More.refl _ | refine More.alloc ?_ _ | refine More.more ?_ _ | refine More.drew ?_ | refine More.drewN ?_ _))⟩

set_option maxHeartbeats 4000000 in
theorem point_c (n : Int) (W : World) :
    Calls Tryz.prog 52 #[.int .i64 n] W fun e w' => e = .returned (ivV (ivPoint n)) ∧ More W w' := by
  go_enter Tryz.func52, Tryz.ntmps52
  go_wp2_with (first | (go_at_call 56; (with_reducible refine (of_c _ _ _).mono ?_); rintro e w' ⟨rfl, r, rfl⟩))
  go_returns
  exact ⟨rfl, (by repeat (first | exact More.refl _ | refine More.alloc ?_ _ | refine More.more ?_ _ | refine More.drew ?_ | refine More.drewN ?_ _))⟩

set_option maxHeartbeats 4000000 in
theorem whole_c (n : Int) (W : World) :
    Calls Tryz.prog 20 #[.int .i64 n] W fun e w' => e = .returned (ivV (ivWhole n)) ∧ More W w' := by
  unfold ivWhole
  by_cases h : isIn n = true
  · rw [if_pos h]
    have hb := isIn_iff.1 h
    go_enter Tryz.func20, Tryz.ntmps20
    go_wp2_with (first | (go_at_call 17; (with_reducible refine (none_c _).mono ?_); rintro e w' ⟨rfl, r, rfl⟩) | (go_at_call 52; (with_reducible refine (point_c _ _).mono ?_); rintro e w' ⟨rfl, r, rfl⟩) | (go_at_call 54; (with_reducible refine (in_c _ _).mono ?_); rintro e w' ⟨rfl, rfl⟩))
    go_returns
    exact ⟨rfl, (by repeat (first | exact More.refl _ | refine More.alloc ?_ _ | refine More.more ?_ _ | refine More.drew ?_ | refine More.drewN ?_ _))⟩
  · rw [if_neg h]
    go_enter Tryz.func20, Tryz.ntmps20
    go_wp2_with (first | (go_at_call 17; (with_reducible refine (none_c _).mono ?_); rintro e w' ⟨rfl, r, rfl⟩) | (go_at_call 52; (with_reducible refine (point_c _ _).mono ?_); rintro e w' ⟨rfl, r, rfl⟩) | (go_at_call 54; (with_reducible refine (in_c _ _).mono ?_); rintro e w' ⟨rfl, rfl⟩))
    go_returns
    exact ⟨rfl, (by repeat (first | exact More.refl _ | refine More.alloc ?_ _ | refine More.more ?_ _ | refine More.drew ?_ | refine More.drewN ?_ _))⟩

set_option maxHeartbeats 4000000 in
theorem both_c (a b : Iv) (W : World) :
    Calls Tryz.prog 55 #[ivV a, ivV b] W fun e w' => e = .returned (.bool (ivBoth a b)) ∧ More W w' := by
  unfold ivBoth
  cases h0 : ivRight a <;> cases h1 : ivRight b
  all_goals
    go_enter Tryz.func55, Tryz.ntmps55
    go_wp2_with (first | (go_at_call 13; (with_reducible refine (right_c _ _).mono ?_); rintro e w' ⟨rfl, r, rfl⟩) | (go_at_call 13; (with_reducible refine (right_c ⟨_, _, _⟩ _).mono ?_); rintro e w' ⟨rfl, r, rfl⟩))
    go_returns
    exact ⟨rfl, (by repeat (first | exact More.refl _ | refine More.alloc ?_ _ | refine More.more ?_ _ | refine More.drew ?_ | refine More.drewN ?_ _))⟩

set_option maxHeartbeats 4000000 in
theorem neg_c (a : Iv) (W : World) :
    Calls Tryz.prog 57 #[ivV a] W fun e w' => e = .returned (ivV (ivNeg a)) ∧ More W w' := by
  unfold ivNeg
  by_cases h : ivRight a = true
  · rw [if_pos h]
    obtain ⟨⟨b1, b2⟩, ⟨b3, b4⟩, b5⟩ := right_bd h
    go_enter Tryz.func57, Tryz.ntmps57
    go_wp2_with (first | (go_at_call 13; (with_reducible refine (right_c _ _).mono ?_); rintro e w' ⟨rfl, r, rfl⟩) | (go_at_call 13; (with_reducible refine (right_c ⟨_, _, _⟩ _).mono ?_); rintro e w' ⟨rfl, r, rfl⟩) | (go_at_call 17; (with_reducible refine (none_c _).mono ?_); rintro e w' ⟨rfl, r, rfl⟩) | (go_at_call 56; (with_reducible refine (of_c _ _ _).mono ?_); rintro e w' ⟨rfl, r, rfl⟩))
    go_returns
    exact ⟨rfl, (by repeat (first | exact More.refl _ | refine More.alloc ?_ _ | refine More.more ?_ _ | refine More.drew ?_ | refine More.drewN ?_ _))⟩
  · rw [if_neg h]
    go_enter Tryz.func57, Tryz.ntmps57
    go_wp2_with (first | (go_at_call 13; (with_reducible refine (right_c _ _).mono ?_); rintro e w' ⟨rfl, r, rfl⟩) | (go_at_call 13; (with_reducible refine (right_c ⟨_, _, _⟩ _).mono ?_); rintro e w' ⟨rfl, r, rfl⟩) | (go_at_call 17; (with_reducible refine (none_c _).mono ?_); rintro e w' ⟨rfl, r, rfl⟩) | (go_at_call 56; (with_reducible refine (of_c _ _ _).mono ?_); rintro e w' ⟨rfl, r, rfl⟩))
    go_returns
    exact ⟨rfl, (by repeat (first | exact More.refl _ | refine More.alloc ?_ _ | refine More.more ?_ _ | refine More.drew ?_ | refine More.drewN ?_ _))⟩

set_option maxHeartbeats 4000000 in
theorem add_c (a b : Iv) (W : World) :
    Calls Tryz.prog 23 #[ivV a, ivV b] W fun e w' => e = .returned (ivV (ivAdd a b)) ∧ More W w' := by
  unfold ivAdd
  by_cases h : ivBoth a b = true
  · rw [if_pos h]
    obtain ⟨⟨⟨b1, b2⟩, ⟨b3, b4⟩, b5⟩, ⟨c1, c2⟩, ⟨c3, c4⟩, c5⟩ := both_bd h
    go_enter Tryz.func23, Tryz.ntmps23
    go_wp2_with (first | (go_at_call 17; (with_reducible refine (none_c _).mono ?_); rintro e w' ⟨rfl, r, rfl⟩) | (go_at_call 55; (with_reducible refine (both_c _ _ _).mono ?_); rintro e w' ⟨rfl, r, rfl⟩) | (go_at_call 55; (with_reducible refine (both_c _ ⟨_, _, _⟩ _).mono ?_); rintro e w' ⟨rfl, r, rfl⟩) | (go_at_call 55; (with_reducible refine (both_c ⟨_, _, _⟩ _ _).mono ?_); rintro e w' ⟨rfl, r, rfl⟩) | (go_at_call 55; (with_reducible refine (both_c ⟨_, _, _⟩ ⟨_, _, _⟩ _).mono ?_); rintro e w' ⟨rfl, r, rfl⟩) | (go_at_call 56; (with_reducible refine (of_c _ _ _).mono ?_); rintro e w' ⟨rfl, r, rfl⟩))
    go_returns
    exact ⟨rfl, (by repeat (first | exact More.refl _ | refine More.alloc ?_ _ | refine More.more ?_ _ | refine More.drew ?_ | refine More.drewN ?_ _))⟩
  · rw [if_neg h]
    go_enter Tryz.func23, Tryz.ntmps23
    go_wp2_with (first | (go_at_call 17; (with_reducible refine (none_c _).mono ?_); rintro e w' ⟨rfl, r, rfl⟩) | (go_at_call 55; (with_reducible refine (both_c _ _ _).mono ?_); rintro e w' ⟨rfl, r, rfl⟩) | (go_at_call 55; (with_reducible refine (both_c _ ⟨_, _, _⟩ _).mono ?_); rintro e w' ⟨rfl, r, rfl⟩) | (go_at_call 55; (with_reducible refine (both_c ⟨_, _, _⟩ _ _).mono ?_); rintro e w' ⟨rfl, r, rfl⟩) | (go_at_call 55; (with_reducible refine (both_c ⟨_, _, _⟩ ⟨_, _, _⟩ _).mono ?_); rintro e w' ⟨rfl, r, rfl⟩) | (go_at_call 56; (with_reducible refine (of_c _ _ _).mono ?_); rintro e w' ⟨rfl, r, rfl⟩))
    go_returns
    exact ⟨rfl, (by repeat (first | exact More.refl _ | refine More.alloc ?_ _ | refine More.more ?_ _ | refine More.drew ?_ | refine More.drewN ?_ _))⟩

set_option maxHeartbeats 4000000 in
theorem sub_c (a b : Iv) (W : World) :
    Calls Tryz.prog 19 #[ivV a, ivV b] W fun e w' => e = .returned (ivV (ivSub a b)) ∧ More W w' := by
  go_enter Tryz.func19, Tryz.ntmps19
  go_wp2_with (first | (go_at_call 23; (with_reducible refine (add_c _ _ _).mono ?_); rintro e w' ⟨rfl, r, rfl⟩) | (go_at_call 23; (with_reducible refine (add_c _ ⟨_, _, _⟩ _).mono ?_); rintro e w' ⟨rfl, r, rfl⟩) | (go_at_call 23; (with_reducible refine (add_c ⟨_, _, _⟩ _ _).mono ?_); rintro e w' ⟨rfl, r, rfl⟩) | (go_at_call 23; (with_reducible refine (add_c ⟨_, _, _⟩ ⟨_, _, _⟩ _).mono ?_); rintro e w' ⟨rfl, r, rfl⟩) | (go_at_call 57; (with_reducible refine (neg_c _ _).mono ?_); rintro e w' ⟨rfl, r, rfl⟩) | (go_at_call 57; (with_reducible refine (neg_c ⟨_, _, _⟩ _).mono ?_); rintro e w' ⟨rfl, r, rfl⟩) | ((with_reducible show Code.wp _ (Code.region 1 _ true) _ _ _); (with_reducible refine wp_more_tailq_m (id := 1) 4 ?_ ?_ ?_); kernel_rfl; kernel_rfl; (try simp only [List.take_succ_cons, List.take_zero, List.drop_succ_cons, List.drop_zero]); (repeat (any_goals (first | go_big_quiet_step ((first | (go_at_call 23; (with_reducible apply quiet_call); with_reducible exact add_c _ _ _) | (go_at_call 23; (with_reducible apply quiet_call); with_reducible exact add_c _ ⟨_, _, _⟩ _) | (go_at_call 23; (with_reducible apply quiet_call); with_reducible exact add_c ⟨_, _, _⟩ _ _) | (go_at_call 23; (with_reducible apply quiet_call); with_reducible exact add_c ⟨_, _, _⟩ ⟨_, _, _⟩ _) | (go_at_call 57; (with_reducible apply quiet_call); with_reducible exact neg_c _ _) | (go_at_call 57; (with_reducible apply quiet_call); with_reducible exact neg_c ⟨_, _, _⟩ _))) | quiet_step ((first | (go_at_call 23; (with_reducible apply quiet_call); with_reducible exact add_c _ _ _) | (go_at_call 23; (with_reducible apply quiet_call); with_reducible exact add_c _ ⟨_, _, _⟩ _) | (go_at_call 23; (with_reducible apply quiet_call); with_reducible exact add_c ⟨_, _, _⟩ _ _) | (go_at_call 23; (with_reducible apply quiet_call); with_reducible exact add_c ⟨_, _, _⟩ ⟨_, _, _⟩ _) | (go_at_call 57; (with_reducible apply quiet_call); with_reducible exact neg_c _ _) | (go_at_call 57; (with_reducible apply quiet_call); with_reducible exact neg_c ⟨_, _, _⟩ _)))))); (with_reducible refine wpQuiet_nil ?_); intro r) | ((with_reducible show Code.wp _ (Code.region 1 _ true) _ _ _); (with_reducible refine wp_more_tailq (id := 1) 4 ?_ ?_ ?_); kernel_rfl; kernel_rfl; (try simp only [List.take_succ_cons, List.take_zero, List.drop_succ_cons, List.drop_zero]); (repeat (any_goals (first | go_big_quiet_step ((first | (go_at_call 23; (with_reducible apply quiet_call); with_reducible exact add_c _ _ _) | (go_at_call 23; (with_reducible apply quiet_call); with_reducible exact add_c _ ⟨_, _, _⟩ _) | (go_at_call 23; (with_reducible apply quiet_call); with_reducible exact add_c ⟨_, _, _⟩ _ _) | (go_at_call 23; (with_reducible apply quiet_call); with_reducible exact add_c ⟨_, _, _⟩ ⟨_, _, _⟩ _) | (go_at_call 57; (with_reducible apply quiet_call); with_reducible exact neg_c _ _) | (go_at_call 57; (with_reducible apply quiet_call); with_reducible exact neg_c ⟨_, _, _⟩ _))) | quiet_step ((first | (go_at_call 23; (with_reducible apply quiet_call); with_reducible exact add_c _ _ _) | (go_at_call 23; (with_reducible apply quiet_call); with_reducible exact add_c _ ⟨_, _, _⟩ _) | (go_at_call 23; (with_reducible apply quiet_call); with_reducible exact add_c ⟨_, _, _⟩ _ _) | (go_at_call 23; (with_reducible apply quiet_call); with_reducible exact add_c ⟨_, _, _⟩ ⟨_, _, _⟩ _) | (go_at_call 57; (with_reducible apply quiet_call); with_reducible exact neg_c _ _) | (go_at_call 57; (with_reducible apply quiet_call); with_reducible exact neg_c ⟨_, _, _⟩ _)))))); (with_reducible refine wpQuiet_nil ?_); intro r))
  go_returns
  exact ⟨rfl, (by repeat (first | exact More.refl _ | refine More.alloc ?_ _ | refine More.more ?_ _ | refine More.drew ?_ | refine More.drewN ?_ _))⟩

set_option maxHeartbeats 4000000 in
theorem out_c (lo hi : Int) (h0 : -1152921504606846976 ≤ lo ∧ lo ≤ 1152921504606846976) (h1 : -1152921504606846976 ≤ hi ∧ hi ≤ 1152921504606846976) (W : World) :
    Calls Tryz.prog 58 #[.int .i64 lo, .int .i64 hi] W fun e w' => e = .returned (ivV (ivOut lo hi)) ∧ More W w' := by
  have e1 := fdiv_abs (-hi) 65536
  have e2 : -1152921504606846976 ≤ (-hi).fdiv 65536 ∧ (-hi).fdiv 65536 ≤ 1152921504606846976 := by omega
  clear e1
  go_enter Tryz.func58, Tryz.ntmps58
  go_wp2_with (first | (go_at_call 56; (with_reducible refine (of_c _ _ _).mono ?_); rintro e w' ⟨rfl, r, rfl⟩) | (go_at_call 97; (with_reducible refine (floor_c _ _ (by omega) (by omega) (by omega) _).mono ?_); rintro e w' ⟨rfl, rfl⟩))
  go_returns
  exact ⟨rfl, (by repeat (first | exact More.refl _ | refine More.alloc ?_ _ | refine More.more ?_ _ | refine More.drew ?_ | refine More.drewN ?_ _))⟩

set_option maxHeartbeats 4000000 in
theorem mul_iv_c (a b : Iv) (W : World) :
    Calls Tryz.prog 21 #[ivV a, ivV b] W fun e w' => e = .returned (ivV (ivMul a b)) ∧ More W w' := by
  unfold ivMul
  by_cases h : ivBoth a b = true
  · rw [if_pos h]
    have p1 := prod_in h a.lo b.lo (.inl rfl) (.inl rfl)
    have p2 := prod_in h a.lo b.hi (.inl rfl) (.inr rfl)
    have p3 := prod_in h a.hi b.lo (.inr rfl) (.inl rfl)
    have p4 := prod_in h a.hi b.hi (.inr rfl) (.inr rfl)
    go_enter Tryz.func21, Tryz.ntmps21
    go_wp2_with (first | (go_at_call 17; (with_reducible refine (none_c _).mono ?_); rintro e w' ⟨rfl, r, rfl⟩) | (go_at_call 55; (with_reducible refine (both_c _ _ _).mono ?_); rintro e w' ⟨rfl, r, rfl⟩) | (go_at_call 55; (with_reducible refine (both_c _ ⟨_, _, _⟩ _).mono ?_); rintro e w' ⟨rfl, r, rfl⟩) | (go_at_call 55; (with_reducible refine (both_c ⟨_, _, _⟩ _ _).mono ?_); rintro e w' ⟨rfl, r, rfl⟩) | (go_at_call 55; (with_reducible refine (both_c ⟨_, _, _⟩ ⟨_, _, _⟩ _).mono ?_); rintro e w' ⟨rfl, r, rfl⟩) | (go_at_call 58; (with_reducible refine (out_c _ _ (by omega) (by omega) _).mono ?_); rintro e w' ⟨rfl, r, rfl⟩) | ((with_reducible show Code.wp _ (Code.region 3 _ true) _ _ _); (with_reducible refine wp_more_quick_m (id := 3) ?_ ?_ ?_); kernel_rfl; kernel_rfl; (try simp only [List.take_succ_cons, List.take_zero, List.drop_succ_cons, List.drop_zero]); (repeat (any_goals (first | go_big_quiet_step (fail) | quiet_step (fail)))); (with_reducible refine wpQuiet_nil ?_); intro r) | ((with_reducible show Code.wp _ (Code.region 3 _ true) _ _ _); (with_reducible refine wp_more_quick (id := 3) ?_ ?_ ?_); kernel_rfl; kernel_rfl; (try simp only [List.take_succ_cons, List.take_zero, List.drop_succ_cons, List.drop_zero]); (repeat (any_goals (first | go_big_quiet_step (fail) | quiet_step (fail)))); (with_reducible refine wpQuiet_nil ?_); intro r))
    go_returns
    exact ⟨rfl, (by repeat (first | exact More.refl _ | refine More.alloc ?_ _ | refine More.more ?_ _ | refine More.drew ?_ | refine More.drewN ?_ _))⟩
  · rw [if_neg h]
    go_enter Tryz.func21, Tryz.ntmps21
    go_wp2_with (first | (go_at_call 17; (with_reducible refine (none_c _).mono ?_); rintro e w' ⟨rfl, r, rfl⟩) | (go_at_call 55; (with_reducible refine (both_c _ _ _).mono ?_); rintro e w' ⟨rfl, r, rfl⟩) | (go_at_call 55; (with_reducible refine (both_c _ ⟨_, _, _⟩ _).mono ?_); rintro e w' ⟨rfl, r, rfl⟩) | (go_at_call 55; (with_reducible refine (both_c ⟨_, _, _⟩ _ _).mono ?_); rintro e w' ⟨rfl, r, rfl⟩) | (go_at_call 55; (with_reducible refine (both_c ⟨_, _, _⟩ ⟨_, _, _⟩ _).mono ?_); rintro e w' ⟨rfl, r, rfl⟩) | (go_at_call 58; (with_reducible refine (out_c _ _ (by omega) (by omega) _).mono ?_); rintro e w' ⟨rfl, r, rfl⟩) | ((with_reducible show Code.wp _ (Code.region 3 _ true) _ _ _); (with_reducible refine wp_more_quick_m (id := 3) ?_ ?_ ?_); kernel_rfl; kernel_rfl; (try simp only [List.take_succ_cons, List.take_zero, List.drop_succ_cons, List.drop_zero]); (repeat (any_goals (first | go_big_quiet_step (fail) | quiet_step (fail)))); (with_reducible refine wpQuiet_nil ?_); intro r) | ((with_reducible show Code.wp _ (Code.region 3 _ true) _ _ _); (with_reducible refine wp_more_quick (id := 3) ?_ ?_ ?_); kernel_rfl; kernel_rfl; (try simp only [List.take_succ_cons, List.take_zero, List.drop_succ_cons, List.drop_zero]); (repeat (any_goals (first | go_big_quiet_step (fail) | quiet_step (fail)))); (with_reducible refine wpQuiet_nil ?_); intro r))
    go_returns
    exact ⟨rfl, (by repeat (first | exact More.refl _ | refine More.alloc ?_ _ | refine More.more ?_ _ | refine More.drew ?_ | refine More.drewN ?_ _))⟩

set_option maxHeartbeats 4000000 in
theorem times_c (a : Iv) (k : Int) (W : World) :
    Calls Tryz.prog 79 #[ivV a, .int .i64 k] W fun e w' => e = .returned (ivV (ivTimes a k)) ∧ More W w' := by
  unfold ivTimes
  by_cases h : ivRight a = true
  · by_cases h1 : isIn k = true
    · rw [h, h1]
      obtain ⟨⟨b1, b2⟩, ⟨b3, b4⟩, b5⟩ := right_bd h
      have p1 := mul_bd (A := 1073741824) (B := 1073741824) (isIn_iff.1 h1) ⟨b1, b2⟩
      have p2 := mul_bd (A := 1073741824) (B := 1073741824) (isIn_iff.1 h1) ⟨b3, b4⟩
      go_enter Tryz.func79, Tryz.ntmps79
      go_wp2_with (first | (go_at_call 13; (with_reducible refine (right_c _ _).mono ?_); rintro e w' ⟨rfl, r, rfl⟩) | (go_at_call 13; (with_reducible refine (right_c ⟨_, _, _⟩ _).mono ?_); rintro e w' ⟨rfl, r, rfl⟩) | (go_at_call 17; (with_reducible refine (none_c _).mono ?_); rintro e w' ⟨rfl, r, rfl⟩) | (go_at_call 54; (with_reducible refine (in_c _ _).mono ?_); rintro e w' ⟨rfl, rfl⟩) | (go_at_call 56; (with_reducible refine (of_c _ _ _).mono ?_); rintro e w' ⟨rfl, r, rfl⟩))
      go_returns
      exact ⟨rfl, (by repeat (first | exact More.refl _ | refine More.alloc ?_ _ | refine More.more ?_ _ | refine More.drew ?_ | refine More.drewN ?_ _))⟩
    · simp only [h, h1]
      go_enter Tryz.func79, Tryz.ntmps79
      go_wp2_with (first | (go_at_call 13; (with_reducible refine (right_c _ _).mono ?_); rintro e w' ⟨rfl, r, rfl⟩) | (go_at_call 13; (with_reducible refine (right_c ⟨_, _, _⟩ _).mono ?_); rintro e w' ⟨rfl, r, rfl⟩) | (go_at_call 17; (with_reducible refine (none_c _).mono ?_); rintro e w' ⟨rfl, r, rfl⟩) | (go_at_call 54; (with_reducible refine (in_c _ _).mono ?_); rintro e w' ⟨rfl, rfl⟩) | (go_at_call 56; (with_reducible refine (of_c _ _ _).mono ?_); rintro e w' ⟨rfl, r, rfl⟩))
      go_returns
      exact ⟨rfl, (by repeat (first | exact More.refl _ | refine More.alloc ?_ _ | refine More.more ?_ _ | refine More.drew ?_ | refine More.drewN ?_ _))⟩
  · simp only [h]
    go_enter Tryz.func79, Tryz.ntmps79
    go_wp2_with (first | (go_at_call 13; (with_reducible refine (right_c _ _).mono ?_); rintro e w' ⟨rfl, r, rfl⟩) | (go_at_call 13; (with_reducible refine (right_c ⟨_, _, _⟩ _).mono ?_); rintro e w' ⟨rfl, r, rfl⟩) | (go_at_call 17; (with_reducible refine (none_c _).mono ?_); rintro e w' ⟨rfl, r, rfl⟩) | (go_at_call 54; (with_reducible refine (in_c _ _).mono ?_); rintro e w' ⟨rfl, rfl⟩) | (go_at_call 56; (with_reducible refine (of_c _ _ _).mono ?_); rintro e w' ⟨rfl, r, rfl⟩))
    go_returns
    exact ⟨rfl, (by repeat (first | exact More.refl _ | refine More.alloc ?_ _ | refine More.more ?_ _ | refine More.drew ?_ | refine More.drewN ?_ _))⟩

set_option maxHeartbeats 4000000 in
theorem has_c (a : Iv) (n : Int) (W : World) :
    Calls Tryz.prog 61 #[ivV a, .int .i64 n] W fun e w' => e = .returned (.bool (ivHas a n)) ∧ More W w' := by
  unfold ivHas
  cases h0 : ivRight a <;> cases h1 : decide (a.lo ≤ n) <;> cases h2 : decide (n ≤ a.hi)
  all_goals
    go_enter Tryz.func61, Tryz.ntmps61
    go_wp2_with (first | (go_at_call 13; (with_reducible refine (right_c _ _).mono ?_); rintro e w' ⟨rfl, r, rfl⟩) | (go_at_call 13; (with_reducible refine (right_c ⟨_, _, _⟩ _).mono ?_); rintro e w' ⟨rfl, r, rfl⟩))
    go_returns
    exact ⟨rfl, (by repeat (first | exact More.refl _ | refine More.alloc ?_ _ | refine More.more ?_ _ | refine More.drew ?_ | refine More.drewN ?_ _))⟩

set_option maxHeartbeats 4000000 in
theorem sqr_c (a : Iv) (W : World) :
    Calls Tryz.prog 24 #[ivV a] W fun e w' => e = .returned (ivV (ivSqr a)) ∧ More W w' := by
  unfold ivSqr
  by_cases h : ivRight a = true
  · rw [if_pos h]
    obtain ⟨⟨b1, b2⟩, ⟨b3, b4⟩, b5⟩ := right_bd h
    have p1 := mul_bd (A := 1073741824) (B := 1073741824) ⟨b1, b2⟩ ⟨b1, b2⟩
    have p2 := mul_bd (A := 1073741824) (B := 1073741824) ⟨b3, b4⟩ ⟨b3, b4⟩
    by_cases h2 : ivHas a 0 = true
    · rw [if_pos h2]
      go_enter Tryz.func24, Tryz.ntmps24
      go_wp2_with (first | (go_at_call 13; (with_reducible refine (right_c _ _).mono ?_); rintro e w' ⟨rfl, r, rfl⟩) | (go_at_call 13; (with_reducible refine (right_c ⟨_, _, _⟩ _).mono ?_); rintro e w' ⟨rfl, r, rfl⟩) | (go_at_call 17; (with_reducible refine (none_c _).mono ?_); rintro e w' ⟨rfl, r, rfl⟩) | (go_at_call 58; (with_reducible refine (out_c _ _ (by omega) (by omega) _).mono ?_); rintro e w' ⟨rfl, r, rfl⟩) | (go_at_call 61; (with_reducible refine (has_c _ _ _).mono ?_); rintro e w' ⟨rfl, r, rfl⟩) | (go_at_call 61; (with_reducible refine (has_c ⟨_, _, _⟩ _ _).mono ?_); rintro e w' ⟨rfl, r, rfl⟩) | ((with_reducible show Code.wp _ (Code.region 3 _ true) _ _ _); (with_reducible refine wp_more_quick_m (id := 3) ?_ ?_ ?_); kernel_rfl; kernel_rfl; (try simp only [List.take_succ_cons, List.take_zero, List.drop_succ_cons, List.drop_zero]); (repeat (any_goals (first | go_big_quiet_step (fail) | quiet_step (fail)))); (with_reducible refine wpQuiet_nil ?_); intro r) | ((with_reducible show Code.wp _ (Code.region 3 _ true) _ _ _); (with_reducible refine wp_more_quick (id := 3) ?_ ?_ ?_); kernel_rfl; kernel_rfl; (try simp only [List.take_succ_cons, List.take_zero, List.drop_succ_cons, List.drop_zero]); (repeat (any_goals (first | go_big_quiet_step (fail) | quiet_step (fail)))); (with_reducible refine wpQuiet_nil ?_); intro r))
      go_returns
      exact ⟨rfl, (by repeat (first | exact More.refl _ | refine More.alloc ?_ _ | refine More.more ?_ _ | refine More.drew ?_ | refine More.drewN ?_ _))⟩
    · rw [if_neg h2]
      go_enter Tryz.func24, Tryz.ntmps24
      go_wp2_with (first | (go_at_call 13; (with_reducible refine (right_c _ _).mono ?_); rintro e w' ⟨rfl, r, rfl⟩) | (go_at_call 13; (with_reducible refine (right_c ⟨_, _, _⟩ _).mono ?_); rintro e w' ⟨rfl, r, rfl⟩) | (go_at_call 17; (with_reducible refine (none_c _).mono ?_); rintro e w' ⟨rfl, r, rfl⟩) | (go_at_call 58; (with_reducible refine (out_c _ _ (by omega) (by omega) _).mono ?_); rintro e w' ⟨rfl, r, rfl⟩) | (go_at_call 61; (with_reducible refine (has_c _ _ _).mono ?_); rintro e w' ⟨rfl, r, rfl⟩) | (go_at_call 61; (with_reducible refine (has_c ⟨_, _, _⟩ _ _).mono ?_); rintro e w' ⟨rfl, r, rfl⟩) | ((with_reducible show Code.wp _ (Code.region 3 _ true) _ _ _); (with_reducible refine wp_more_quick_m (id := 3) ?_ ?_ ?_); kernel_rfl; kernel_rfl; (try simp only [List.take_succ_cons, List.take_zero, List.drop_succ_cons, List.drop_zero]); (repeat (any_goals (first | go_big_quiet_step (fail) | quiet_step (fail)))); (with_reducible refine wpQuiet_nil ?_); intro r) | ((with_reducible show Code.wp _ (Code.region 3 _ true) _ _ _); (with_reducible refine wp_more_quick (id := 3) ?_ ?_ ?_); kernel_rfl; kernel_rfl; (try simp only [List.take_succ_cons, List.take_zero, List.drop_succ_cons, List.drop_zero]); (repeat (any_goals (first | go_big_quiet_step (fail) | quiet_step (fail)))); (with_reducible refine wpQuiet_nil ?_); intro r))
      go_returns
      exact ⟨rfl, (by repeat (first | exact More.refl _ | refine More.alloc ?_ _ | refine More.more ?_ _ | refine More.drew ?_ | refine More.drewN ?_ _))⟩
  · rw [if_neg h]
    go_enter Tryz.func24, Tryz.ntmps24
    go_wp2_with (first | (go_at_call 13; (with_reducible refine (right_c _ _).mono ?_); rintro e w' ⟨rfl, r, rfl⟩) | (go_at_call 13; (with_reducible refine (right_c ⟨_, _, _⟩ _).mono ?_); rintro e w' ⟨rfl, r, rfl⟩) | (go_at_call 17; (with_reducible refine (none_c _).mono ?_); rintro e w' ⟨rfl, r, rfl⟩) | (go_at_call 58; (with_reducible refine (out_c _ _ (by omega) (by omega) _).mono ?_); rintro e w' ⟨rfl, r, rfl⟩) | (go_at_call 61; (with_reducible refine (has_c _ _ _).mono ?_); rintro e w' ⟨rfl, r, rfl⟩) | (go_at_call 61; (with_reducible refine (has_c ⟨_, _, _⟩ _ _).mono ?_); rintro e w' ⟨rfl, r, rfl⟩) | ((with_reducible show Code.wp _ (Code.region 3 _ true) _ _ _); (with_reducible refine wp_more_quick_m (id := 3) ?_ ?_ ?_); kernel_rfl; kernel_rfl; (try simp only [List.take_succ_cons, List.take_zero, List.drop_succ_cons, List.drop_zero]); (repeat (any_goals (first | go_big_quiet_step (fail) | quiet_step (fail)))); (with_reducible refine wpQuiet_nil ?_); intro r) | ((with_reducible show Code.wp _ (Code.region 3 _ true) _ _ _); (with_reducible refine wp_more_quick (id := 3) ?_ ?_ ?_); kernel_rfl; kernel_rfl; (try simp only [List.take_succ_cons, List.take_zero, List.drop_succ_cons, List.drop_zero]); (repeat (any_goals (first | go_big_quiet_step (fail) | quiet_step (fail)))); (with_reducible refine wpQuiet_nil ?_); intro r))
    go_returns
    exact ⟨rfl, (by repeat (first | exact More.refl _ | refine More.alloc ?_ _ | refine More.more ?_ _ | refine More.drew ?_ | refine More.drewN ?_ _))⟩

set_option maxHeartbeats 4000000 in
theorem meet_c (a b : Iv) (W : World) :
    Calls Tryz.prog 14 #[ivV a, ivV b] W fun e w' => e = .returned (ivV (ivMeet a b)) ∧ More W w' := by
  unfold ivMeet
  by_cases h : ivBoth a b = true
  · rw [if_pos h]
    go_enter Tryz.func14, Tryz.ntmps14
    go_wp2_with (first | (go_at_call 17; (with_reducible refine (none_c _).mono ?_); rintro e w' ⟨rfl, r, rfl⟩) | (go_at_call 55; (with_reducible refine (both_c _ _ _).mono ?_); rintro e w' ⟨rfl, r, rfl⟩) | (go_at_call 55; (with_reducible refine (both_c _ ⟨_, _, _⟩ _).mono ?_); rintro e w' ⟨rfl, r, rfl⟩) | (go_at_call 55; (with_reducible refine (both_c ⟨_, _, _⟩ _ _).mono ?_); rintro e w' ⟨rfl, r, rfl⟩) | (go_at_call 55; (with_reducible refine (both_c ⟨_, _, _⟩ ⟨_, _, _⟩ _).mono ?_); rintro e w' ⟨rfl, r, rfl⟩) | (go_at_call 56; (with_reducible refine (of_c _ _ _).mono ?_); rintro e w' ⟨rfl, r, rfl⟩))
    go_returns
    exact ⟨rfl, (by repeat (first | exact More.refl _ | refine More.alloc ?_ _ | refine More.more ?_ _ | refine More.drew ?_ | refine More.drewN ?_ _))⟩
  · rw [if_neg h]
    go_enter Tryz.func14, Tryz.ntmps14
    go_wp2_with (first | (go_at_call 17; (with_reducible refine (none_c _).mono ?_); rintro e w' ⟨rfl, r, rfl⟩) | (go_at_call 55; (with_reducible refine (both_c _ _ _).mono ?_); rintro e w' ⟨rfl, r, rfl⟩) | (go_at_call 55; (with_reducible refine (both_c _ ⟨_, _, _⟩ _).mono ?_); rintro e w' ⟨rfl, r, rfl⟩) | (go_at_call 55; (with_reducible refine (both_c ⟨_, _, _⟩ _ _).mono ?_); rintro e w' ⟨rfl, r, rfl⟩) | (go_at_call 55; (with_reducible refine (both_c ⟨_, _, _⟩ ⟨_, _, _⟩ _).mono ?_); rintro e w' ⟨rfl, r, rfl⟩) | (go_at_call 56; (with_reducible refine (of_c _ _ _).mono ?_); rintro e w' ⟨rfl, r, rfl⟩))
    go_returns
    exact ⟨rfl, (by repeat (first | exact More.refl _ | refine More.alloc ?_ _ | refine More.more ?_ _ | refine More.drew ?_ | refine More.drewN ?_ _))⟩

set_option maxHeartbeats 4000000 in
theorem mid_c (a : Iv) (W : World) :
    Calls Tryz.prog 130 #[ivV a] W fun e w' => e = .returned (.int .i64 (ivMid a)) ∧ More W w' := by
  unfold ivMid
  by_cases h : ivRight a = true
  · rw [if_pos h]
    obtain ⟨⟨b1, b2⟩, ⟨b3, b4⟩, b5⟩ := right_bd h
    go_enter Tryz.func130, Tryz.ntmps130
    go_wp2_with (first | (go_at_call 13; (with_reducible refine (right_c _ _).mono ?_); rintro e w' ⟨rfl, r, rfl⟩) | (go_at_call 13; (with_reducible refine (right_c ⟨_, _, _⟩ _).mono ?_); rintro e w' ⟨rfl, r, rfl⟩) | (go_at_call 97; (with_reducible refine (floor_c _ _ (by omega) (by omega) (by omega) _).mono ?_); rintro e w' ⟨rfl, rfl⟩))
    go_returns
    exact ⟨rfl, (by repeat (first | exact More.refl _ | refine More.alloc ?_ _ | refine More.more ?_ _ | refine More.drew ?_ | refine More.drewN ?_ _))⟩
  · rw [if_neg h]
    go_enter Tryz.func130, Tryz.ntmps130
    go_wp2_with (first | (go_at_call 13; (with_reducible refine (right_c _ _).mono ?_); rintro e w' ⟨rfl, r, rfl⟩) | (go_at_call 13; (with_reducible refine (right_c ⟨_, _, _⟩ _).mono ?_); rintro e w' ⟨rfl, r, rfl⟩) | (go_at_call 97; (with_reducible refine (floor_c _ _ (by omega) (by omega) (by omega) _).mono ?_); rintro e w' ⟨rfl, rfl⟩))
    go_returns
    exact ⟨rfl, (by repeat (first | exact More.refl _ | refine More.alloc ?_ _ | refine More.more ?_ _ | refine More.drew ?_ | refine More.drewN ?_ _))⟩

set_option maxHeartbeats 4000000 in
theorem iroot_c (a : Iv) (W : World) :
    Calls Tryz.prog 98 #[ivV a] W fun e w' => e = .returned (ivV (ivRoot a)) ∧ More W w' := by
  unfold ivRoot
  cases h0 : ivRight a <;> cases h1 : (rootN a.lo false).2 <;> cases h2 : (rootN a.hi true).2
  all_goals
    simp only [Bool.and_true, Bool.and_false, if_true, if_false, Bool.false_eq_true]
    go_enter Tryz.func98, Tryz.ntmps98
    go_wp2_with (first | (go_at_call 13; (with_reducible refine (right_c _ _).mono ?_); rintro e w' ⟨rfl, r, rfl⟩) | (go_at_call 13; (with_reducible refine (right_c ⟨_, _, _⟩ _).mono ?_); rintro e w' ⟨rfl, r, rfl⟩) | (go_at_call 17; (with_reducible refine (none_c _).mono ?_); rintro e w' ⟨rfl, r, rfl⟩) | (go_at_call 56; (with_reducible refine (of_c _ _ _).mono ?_); rintro e w' ⟨rfl, r, rfl⟩) | (go_at_call 121; (with_reducible refine (root_c _ _ _).mono ?_); rintro e w' ⟨rfl, rfl⟩))
    go_returns
    exact ⟨rfl, (by repeat (first | exact More.refl _ | refine More.alloc ?_ _ | refine More.more ?_ _ | refine More.drew ?_ | refine More.drewN ?_ _))⟩

set_option maxHeartbeats 4000000 in
theorem split_c (a : Iv) (W : World) :
    Calls Tryz.prog 131 #[ivV a] W fun e w' => e = .returned (.tuple #[ivV (ivSplit a).1, ivV (ivSplit a).2]) ∧ More W w' := by
  unfold ivSplit
  by_cases h : ivRight a = true
  · rw [if_pos h]
    go_enter Tryz.func131, Tryz.ntmps131
    go_wp2_with (first | (go_at_call 13; (with_reducible refine (right_c _ _).mono ?_); rintro e w' ⟨rfl, r, rfl⟩) | (go_at_call 13; (with_reducible refine (right_c ⟨_, _, _⟩ _).mono ?_); rintro e w' ⟨rfl, r, rfl⟩) | (go_at_call 17; (with_reducible refine (none_c _).mono ?_); rintro e w' ⟨rfl, r, rfl⟩) | (go_at_call 56; (with_reducible refine (of_c _ _ _).mono ?_); rintro e w' ⟨rfl, r, rfl⟩) | (go_at_call 130; (with_reducible refine (mid_c _ _).mono ?_); rintro e w' ⟨rfl, r, rfl⟩) | (go_at_call 130; (with_reducible refine (mid_c ⟨_, _, _⟩ _).mono ?_); rintro e w' ⟨rfl, r, rfl⟩) | ((with_reducible show Code.wp _ (Code.region 4 _ true) _ _ _); (with_reducible refine wp_more_tailq_m (id := 4) 8 ?_ ?_ ?_); kernel_rfl; kernel_rfl; (try simp only [List.take_succ_cons, List.take_zero, List.drop_succ_cons, List.drop_zero]); (repeat (any_goals (first | go_big_quiet_step ((first | (go_at_call 56; (with_reducible apply quiet_call); with_reducible exact of_c _ _ _))) | quiet_step ((first | (go_at_call 56; (with_reducible apply quiet_call); with_reducible exact of_c _ _ _)))))); (with_reducible refine wpQuiet_nil ?_); intro r) | ((with_reducible show Code.wp _ (Code.region 4 _ true) _ _ _); (with_reducible refine wp_more_tailq (id := 4) 8 ?_ ?_ ?_); kernel_rfl; kernel_rfl; (try simp only [List.take_succ_cons, List.take_zero, List.drop_succ_cons, List.drop_zero]); (repeat (any_goals (first | go_big_quiet_step ((first | (go_at_call 56; (with_reducible apply quiet_call); with_reducible exact of_c _ _ _))) | quiet_step ((first | (go_at_call 56; (with_reducible apply quiet_call); with_reducible exact of_c _ _ _)))))); (with_reducible refine wpQuiet_nil ?_); intro r))
    go_returns
    exact ⟨rfl, (by repeat (first | exact More.refl _ | refine More.alloc ?_ _ | refine More.more ?_ _ | refine More.drew ?_ | refine More.drewN ?_ _))⟩
  · rw [if_neg h]
    go_enter Tryz.func131, Tryz.ntmps131
    go_wp2_with (first | (go_at_call 13; (with_reducible refine (right_c _ _).mono ?_); rintro e w' ⟨rfl, r, rfl⟩) | (go_at_call 13; (with_reducible refine (right_c ⟨_, _, _⟩ _).mono ?_); rintro e w' ⟨rfl, r, rfl⟩) | (go_at_call 17; (with_reducible refine (none_c _).mono ?_); rintro e w' ⟨rfl, r, rfl⟩) | (go_at_call 56; (with_reducible refine (of_c _ _ _).mono ?_); rintro e w' ⟨rfl, r, rfl⟩) | (go_at_call 130; (with_reducible refine (mid_c _ _).mono ?_); rintro e w' ⟨rfl, r, rfl⟩) | (go_at_call 130; (with_reducible refine (mid_c ⟨_, _, _⟩ _).mono ?_); rintro e w' ⟨rfl, r, rfl⟩) | ((with_reducible show Code.wp _ (Code.region 4 _ true) _ _ _); (with_reducible refine wp_more_tailq_m (id := 4) 8 ?_ ?_ ?_); kernel_rfl; kernel_rfl; (try simp only [List.take_succ_cons, List.take_zero, List.drop_succ_cons, List.drop_zero]); (repeat (any_goals (first | go_big_quiet_step ((first | (go_at_call 56; (with_reducible apply quiet_call); with_reducible exact of_c _ _ _))) | quiet_step ((first | (go_at_call 56; (with_reducible apply quiet_call); with_reducible exact of_c _ _ _)))))); (with_reducible refine wpQuiet_nil ?_); intro r) | ((with_reducible show Code.wp _ (Code.region 4 _ true) _ _ _); (with_reducible refine wp_more_tailq (id := 4) 8 ?_ ?_ ?_); kernel_rfl; kernel_rfl; (try simp only [List.take_succ_cons, List.take_zero, List.drop_succ_cons, List.drop_zero]); (repeat (any_goals (first | go_big_quiet_step ((first | (go_at_call 56; (with_reducible apply quiet_call); with_reducible exact of_c _ _ _))) | quiet_step ((first | (go_at_call 56; (with_reducible apply quiet_call); with_reducible exact of_c _ _ _)))))); (with_reducible refine wpQuiet_nil ?_); intro r))
    go_returns
    exact ⟨rfl, (by repeat (first | exact More.refl _ | refine More.alloc ?_ _ | refine More.more ?_ _ | refine More.drew ?_ | refine More.drewN ?_ _))⟩

end Go.Proofs.YtggohceeeggnmaaGreat

namespace Go.Proofs.YtggohceeeggnmaaGreat
set_option linter.unusedVariables false
open Go.RowKit

/-- The cells of the slice v hold the intervals l. -/
def Row (w : World) (v : Value) (l : List Iv) : Prop :=
  (v = .slice none 0 0 ∧ l = []) ∨ ∃ g o c, v = .slice (some ⟨g, o, none⟩) l.length c ∧ ∀ k a, l[k]? = some a →
    w.cell? ⟨g, o + k * 3, none⟩ = some (.int .i64 a.lo) ∧ w.cell? ⟨g, o + k * 3 + 1, none⟩ = some (.int .i64 a.hi) ∧ w.cell? ⟨g, o + k * 3 + 2, none⟩ = some (.bool a.no)
theorem Row.nil (w : World) : Row w (.slice none 0 0) [] := .inl ⟨rfl, rfl⟩
theorem Row.keep {w w' : World} {v : Value} {l : List Iv} (h : Row w v l) (hb : ∀ k, k < w.heap.size → w'.heap[k]? = w.heap[k]?) : Row w' v l := by
  rcases h with h | ⟨g, o, c, hv, hc⟩
  · exact .inl h
  · refine .inr ⟨g, o, c, hv, fun k a hk => ?_⟩
    obtain ⟨h1, h2, h3⟩ := hc k a hk
    have hg : g < w.heap.size := World.block_lt_of_cell? w _ h1
    have e : ∀ n, w'.cell? ⟨g, n, none⟩ = w.cell? ⟨g, n, none⟩ := fun n => World.cell?_of_block (hb g hg)
    rw [e, e, e]
    exact ⟨h1, h2, h3⟩
theorem Row.more {w : World} {v : Value} {l : List Iv} (h : Row w v l) {r : Rest} : Row (more w r) v l := h.keep fun k hk => heap_more w r k hk
theorem Row.plus {w : World} {v : Value} {l : List Iv} {r s : Rest} (h : Row (_root_.Go.Proofs.YtggohceeeggnmaaGreat.more w r) v l) : Row (_root_.Go.Proofs.YtggohceeeggnmaaGreat.more w (r.plus s)) v l := by
  rw [← more_more]
  exact h.more
theorem Row.alloc {w : World} {v : Value} {l : List Iv} (h : Row w v l) {o : Obj} : Row (w.alloc o) v l := h.keep fun k hk => Below.heap_alloc w o k hk
theorem Row.drew {w : World} {v : Value} {l : List Iv} (h : Row w v l) : Row w.drew v l := h.keep fun _ _ => rfl
theorem Row.drewN {w : World} {v : Value} {l : List Iv} (h : Row w v l) {n : Nat} : Row (w.drewN n) v l := h.keep fun _ _ => rfl
theorem Row.up {w w' : World} {v : Value} {l : List Iv} (h : Row w v l) (hm : More w w') : Row w' v l := by
  obtain ⟨r, rfl⟩ := hm
  exact h.more

/-- One interval's three cells; those of a list. -/
def cells1 (a : Iv) : List Value := [.int .i64 a.lo, .int .i64 a.hi, .bool a.no]
def cellsL : List Iv → List Value
  | [] => []
  | a :: r => cells1 a ++ cellsL r
theorem cellsL_length : ∀ l : List Iv, (cellsL l).length = l.length * 3
  | [] => rfl
  | a :: r => by simp [cellsL, cells1, cellsL_length r]; omega
theorem cellsL_append : ∀ l m : List Iv, cellsL (l ++ m) = cellsL l ++ cellsL m
  | [], m => rfl
  | a :: r, m => by simp [cellsL, cellsL_append r m]
theorem cellsL_at : ∀ (l : List Iv) (k : Nat) (a : Iv), l[k]? = some a →
    (cellsL l)[k * 3]? = some (.int .i64 a.lo) ∧ (cellsL l)[k * 3 + 1]? = some (.int .i64 a.hi) ∧ (cellsL l)[k * 3 + 2]? = some (.bool a.no)
  | [], k, a, h => by simp at h
  | b :: r, 0, a, h => by
    simp at h
    subst h
    simp [cellsL, cells1]
  | b :: r, k + 1, a, h => by
    have := cellsL_at r k a (by simpa using h)
    simp only [cellsL, cells1, List.cons_append, List.nil_append]
    rw [show (k + 1) * 3 = k * 3 + 1 + 1 + 1 by omega, show k * 3 + 1 + 1 + 1 + 1 = (k * 3 + 1) + 1 + 1 + 1 by omega, show k * 3 + 1 + 1 + 1 + 2 = (k * 3 + 2) + 1 + 1 + 1 by omega]
    simpa using this
theorem cellsL_one (l : List Iv) : ∀ u ∈ cellsL l, u.oneCell' = true := by
  induction l with
  | nil => intro u hu; simp [cellsL] at hu
  | cons a r ih =>
    intro u hu
    simp only [cellsL, cells1, List.mem_append, List.mem_cons, List.not_mem_nil, or_false] at hu
    rcases hu with (rfl | rfl | rfl) | hu
    · rfl
    · rfl
    · rfl
    · exact ih u hu
/-- A row of cells that begins with those of l holds l. -/
theorem Row.of_cells {w : World} {g c : Nat} {e : TypeId} {cur : Array Value} {l : List Iv} {x : Value} (hx : x = .slice (some ⟨g, 0, none⟩) l.length c) (hg : w.heap[g]? = some (.cells cur e (0, 0))) (ht : cur.toList.take (l.length * 3) = cellsL l) : Row w x l := by
  refine .inr ⟨g, 0, c, hx, fun k a hk => ?_⟩
  have hlt : k < l.length := (List.getElem?_eq_some_iff.1 hk).1
  obtain ⟨h1, h2, h3⟩ := cellsL_at l k a hk
  rw [← ht] at h1 h2 h3
  have e : ∀ n u, (cur.toList.take (l.length * 3))[n]? = some u → w.cell? ⟨g, n, none⟩ = some u := fun n u hu => by
    have hn : n < l.length * 3 := by
      have := (List.getElem?_eq_some_iff.1 hu).1
      simp at this
      omega
    rw [List.getElem?_take_of_lt hn] at hu
    simp [World.cell?, hg]
    simpa using hu
  simp only [Nat.zero_add]
  exact ⟨e _ _ h1, e _ _ h2, e _ _ h3⟩
theorem Row.of_owns {w : World} {base n : Nat} {v : Value} {e : TypeId} {l : List Iv} (h : w.ownsRow base e 3 v n (cellsL l)) : Row w v l := by
  obtain ⟨hl, h⟩ := h
  rw [cellsL_length] at hl
  have hn : n = l.length := by omega
  subst hn
  rcases h with ⟨rfl, h0⟩ | ⟨g, cap, cur, rfl, -, hg, -, -, -, ht⟩
  · exact .inl ⟨rfl, List.eq_nil_of_length_eq_zero h0⟩
  · exact Row.of_cells rfl hg ht
theorem Row.lit {w : World} {v : Value} {e : TypeId} {l : List Iv} {b c : Nat} {cur : Array Value} (hv : v = .slice (some ⟨b, 0, none⟩) l.length c) (hb : b = w.heap.size) (ht : cur.toList = cellsL l) : Row (w.alloc (.cells cur e)) v l := by
  subst hb
  refine Row.of_cells hv (heap_alloc_new w _) ?_
  rw [ht, ← cellsL_length, List.take_length]
theorem row_lit1 {w : World} {e : TypeId} {b c : Nat} (a0 : Iv) (hb : b = w.heap.size) : Row (w.alloc (.cells #[.int .i64 a0.lo, .int .i64 a0.hi, .bool a0.no] e)) (.slice (some ⟨b, 0, none⟩) 1 c) [a0] := Row.lit rfl hb rfl
theorem row_lit2 {w : World} {e : TypeId} {b c : Nat} (a0 a1 : Iv) (hb : b = w.heap.size) : Row (w.alloc (.cells #[.int .i64 a0.lo, .int .i64 a0.hi, .bool a0.no, .int .i64 a1.lo, .int .i64 a1.hi, .bool a1.no] e)) (.slice (some ⟨b, 0, none⟩) 2 c) [a0, a1] := Row.lit rfl hb rfl
theorem row_lit3 {w : World} {e : TypeId} {b c : Nat} (a0 a1 a2 : Iv) (hb : b = w.heap.size) : Row (w.alloc (.cells #[.int .i64 a0.lo, .int .i64 a0.hi, .bool a0.no, .int .i64 a1.lo, .int .i64 a1.hi, .bool a1.no, .int .i64 a2.lo, .int .i64 a2.hi, .bool a2.no] e)) (.slice (some ⟨b, 0, none⟩) 3 c) [a0, a1, a2] := Row.lit rfl hb rfl

abbrev Val := Value
theorem int_is {a b : Int} (h : a = b) : Value.int .i64 a = .int .i64 b := by rw [h]

theorem row_num1 {w : World} {e : TypeId} {b c : Nat} {l0 h0 : Int} {n0 : Bool} (hb : b = w.heap.size) : Row (w.alloc (.cells #[.int .i64 l0, .int .i64 h0, .bool n0] e)) (.slice (some ⟨b, 0, none⟩) 1 c) [⟨l0, h0, n0⟩] := Row.lit rfl hb rfl
theorem row_num2 {w : World} {e : TypeId} {b c : Nat} {l0 h0 l1 h1 : Int} {n0 n1 : Bool} (hb : b = w.heap.size) : Row (w.alloc (.cells #[.int .i64 l0, .int .i64 h0, .bool n0, .int .i64 l1, .int .i64 h1, .bool n1] e)) (.slice (some ⟨b, 0, none⟩) 2 c) [⟨l0, h0, n0⟩, ⟨l1, h1, n1⟩] := Row.lit rfl hb rfl
theorem row_num3 {w : World} {e : TypeId} {b c : Nat} {l0 h0 l1 h1 l2 h2 : Int} {n0 n1 n2 : Bool} (hb : b = w.heap.size) : Row (w.alloc (.cells #[.int .i64 l0, .int .i64 h0, .bool n0, .int .i64 l1, .int .i64 h1, .bool n1, .int .i64 l2, .int .i64 h2, .bool n2] e)) (.slice (some ⟨b, 0, none⟩) 3 c) [⟨l0, h0, n0⟩, ⟨l1, h1, n1⟩, ⟨l2, h2, n2⟩] := Row.lit rfl hb rfl
theorem owns_keep {w w' : World} {base n size : Nat} {e : TypeId} {v : Value} {xs : List Value} (h : w.ownsRow base e size v n xs) (hb : ∀ k, k < w.heap.size → w'.heap[k]? = w.heap[k]?) : w'.ownsRow base e size v n xs := by
  obtain ⟨hl, h⟩ := h
  refine ⟨hl, ?_⟩
  rcases h with h | ⟨g, cap, cur, hv, hg, hc, h1⟩
  · exact .inl h
  · exact .inr ⟨g, cap, cur, hv, hg, (hb g ((Array.getElem?_eq_some_iff.1 hc).1)).trans hc, h1⟩
theorem owns_more {w : World} {base n size : Nat} {e : TypeId} {v : Value} {xs : List Value} (h : w.ownsRow base e size v n xs) {r : Rest} : (more w r).ownsRow base e size v n xs := owns_keep h fun k hk => heap_more w r k hk
theorem owns_alloc {w : World} {base n size : Nat} {e : TypeId} {v : Value} {xs : List Value} (h : w.ownsRow base e size v n xs) {o : Obj} : (w.alloc o).ownsRow base e size v n xs := owns_keep h fun k hk => Below.heap_alloc w o k hk
theorem below_more {B : Nat} {a w : World} (h : Below B a w) (r : Rest) (hB : B ≤ w.heap.size) : Below B a (more w r) :=
  h.trans ⟨rfl, rfl, rfl, by simp, fun k hk => heap_more _ _ _ (by omega)⟩

theorem new_cells {w : World} {e : TypeId} {b : Nat} (a : Iv) (hb : b = w.heap.size) : ∀ j u, (cells1 a)[j]? = some u → (w.alloc (.cells #[.int .i64 a.lo, .int .i64 a.hi, .bool a.no] e)).cell? ((⟨b, 0, none⟩ : Addr).add j) = some u := by
  subst hb
  intro j u hu
  have c : ∀ n (cur : Array Value), (w.alloc (.cells cur e)).cell? ⟨w.heap.size, n, none⟩ = cur[n]? := fun n cur => by
    simp only [World.cell?]
    rw [heap_alloc_new]
    rfl
  rw [Addr.add_lit, Nat.zero_add, c]
  simpa [cells1] using hu
theorem cells1_one (a : Iv) : ∀ u ∈ cells1 a, u.oneCell' = true := by
  have := cellsL_one [a]
  simpa [cellsL] using this
theorem cellsL_snoc (l : List Iv) (a : Iv) : cellsL l ++ cells1 a = cellsL (l ++ [a]) := by rw [cellsL_append]; simp [cellsL]

/-! Sums of powers and slopes. -/
def horner : List Iv → Iv → Iv
  | [], _ => ivPoint 0
  | [a], _ => if ivRight a then a else ivNone
  | a :: b :: l, x => ivAdd (ivMul (horner (b :: l) x) x) a
def slopeTo (l : List Iv) (k : Nat) : List Iv := (List.range k).map fun i => ivTimes (l.getD (i + 1) ivNone) ((i + 1 : Nat) : Int)
def slope (l : List Iv) : List Iv := slopeTo l (l.length - 1)
theorem slopeTo_succ (l : List Iv) (k : Nat) : slopeTo l (k + 1) = slopeTo l k ++ [ivTimes (l.getD (k + 1) ivNone) ((k + 1 : Nat) : Int)] := by
  simp [slopeTo, List.range_succ]
theorem slopeTo_length (l : List Iv) (k : Nat) : (slopeTo l k).length = k := by simp [slopeTo]
@[simp] theorem slope_length (l : List Iv) : (slope l).length = l.length - 1 := slopeTo_length l _
/-- From place k on. -/
theorem horner_drop {l : List Iv} {k : Nat} (h : k + 1 < l.length) (x : Iv) : horner (l.drop k) x = ivAdd (ivMul (horner (l.drop (k + 1)) x) x) (l.getD k ivNone) := by
  have h1 : l.drop k = l.getD k ivNone :: l.drop (k + 1) := by
    rw [List.drop_eq_getElem_cons (by omega)]
    simp [List.getD, show k < l.length by omega]
  have h2 : l.drop (k + 1) = l.getD (k + 1) ivNone :: l.drop (k + 1 + 1) := by
    rw [List.drop_eq_getElem_cons (by omega)]
    simp [List.getD, show k + 1 < l.length by omega]
  rw [h1, h2]
  rfl
theorem horner_last {l : List Iv} {k : Nat} (h : k + 1 = l.length) (x : Iv) : horner (l.drop k) x = if ivRight (l.getD k ivNone) then l.getD k ivNone else ivNone := by
  have h1 : l.drop k = l.getD k ivNone :: l.drop (k + 1) := by
    rw [List.drop_eq_getElem_cons (by omega)]
    simp [List.getD, show k < l.length by omega]
  rw [h1, List.drop_eq_nil_of_le (by omega)]
  rfl
theorem mul_none (x : Iv) : ivMul ivNone x = ivNone := by unfold ivMul ivBoth; rw [right_none]; rfl
theorem add_none (x : Iv) : ivAdd ivNone x = ivNone := by unfold ivAdd ivBoth; rw [right_none]; rfl
theorem horner_none {l : List Iv} (x : Iv) : ∀ (d k : Nat), k + d < l.length → horner (l.drop (k + d)) x = ivNone → horner (l.drop k) x = ivNone
  | 0, k, _, h => h
  | d + 1, k, hk, h => by
    have := horner_none (l := l) x d (k + 1) (by omega) (by rw [show k + 1 + d = k + (d + 1) by omega]; exact h)
    rw [horner_drop (by omega), this, mul_none, add_none]
theorem horner_bad {l : List Iv} (x : Iv) (h0 : ¬ l.length = 0) (h : horner (l.drop (l.length - 1)) x = ivNone) : horner l x = ivNone := by
  have := horner_none (l := l) x (l.length - 1) 0 (by omega) (by rw [Nat.zero_add]; exact h)
  simpa using this
end Go.Proofs.YtggohceeeggnmaaGreat

namespace Go.Proofs.YtggohceeeggnmaaGreat
set_option linter.unusedVariables false
open Go.ChangeShapes Go.WideShapes Go.ChangeAt Go.RowKit

/-- The cells of the slice v hold the numbers l. -/
def Ints (w : World) (v : Value) (l : List Int) : Prop :=
  (l = [] ∧ ∃ a c, v = .slice a 0 c) ∨ ∃ b o c, v = .slice (some ⟨b, o, none⟩) l.length c ∧ ∀ k n, l[k]? = some n → w.cell? ⟨b, o + k, none⟩ = some (.int .i64 n)
theorem ints_form {w : World} {v : Value} {l : List Int} (h : Ints w v l) : ∃ ao c, v = .slice ao l.length c ∧ (0 < l.length → ∃ b o, ao = some ⟨b, o, none⟩ ∧ ∀ k, k < l.length → b < w.heap.size ∧ w.cell? ⟨b, o + k, none⟩ = some (.int .i64 (l.getD k 0))) := by
  rcases h with ⟨rfl, a, c, rfl⟩ | ⟨b, o, c, rfl, hc⟩
  · exact ⟨a, c, rfl, fun h => by simp at h⟩
  · refine ⟨_, c, rfl, fun _ => ⟨b, o, rfl, fun k hk => ?_⟩⟩
    have := hc k (l.getD k 0) (by simp [List.getD, hk])
    exact ⟨World.block_lt_of_cell? w _ this, this⟩

/-! Rows of the call's own. -/
theorem owns_base {w : World} {base base' n size : Nat} {e : TypeId} {v : Value} {xs : List Value} (h : w.ownsRow base e size v n xs) (hb : base' ≤ base) : w.ownsRow base' e size v n xs := by
  obtain ⟨hl, h⟩ := h
  refine ⟨hl, ?_⟩
  rcases h with h | ⟨g, cap, cur, hv, hg, h1⟩
  · exact .inl h
  · exact .inr ⟨g, cap, cur, hv, Nat.le_trans hb hg, h1⟩
theorem grown_any {w w' : World} (h : w.grownBy w' none) (row : Option Nat) : w.grownBy w' row := ⟨h.os, h.tape, h.output, h.size, fun k hk _ => h.block k hk (by simp)⟩
/-- 'append' on a row of the call's own: the row's block is the same, or it is new. -/
theorem wpList_append_row {P : Program} (w : World) {ops : Array Oper} {rest : List Oper} {o : Oper} {a : Act} {Q : Exit → Act → World → Prop}
    (hg : o.guard = none) (s x : Operand) (t : TypeId) (hop : o.op = Op.call { callee := Callee.builtin Builtin.append, args := #[s, x], argTypes := #[t, t] })
    (base : Nat) (e : TypeId) (i : TypeInfo) (z : Value) (size bytes : Nat) (h1 : P.underlying t = some (.slice e)) (h2 : P.info? e = some i) (h3 : i.zero = some z) (h4 : i.size = size) (h5 : i.bytes = bytes) (h6 : z.cells.size = size) (h7 : 0 < size)
    (v : Value) (n : Nat) (xs : List Value) (hs : a.eval s = v) (hown : w.ownsRow base e size v n xs)
    (ad : Addr) (m c : Nat) (news : List Value) (hx : a.eval x = .slice (some ad) m c) (hn : news.length = m * size) (hc : ∀ j u, news[j]? = some u → w.cell? (ad.add j) = some u) (h1c : ∀ u ∈ news, u.oneCell' = true)
    (hm : 0 < m) (b1 : n + m ≤ maxLen) (b2 : (n + m) * bytes ≤ 140737488355328) (hb : base ≤ w.heap.size)
    (hK : ∀ v' w', w'.ownsRow base e size v' (n + m) (xs ++ news) → w.grownBy w' v.ownBlock → (v'.ownBlock = v.ownBlock ∨ ∀ g, v'.ownBlock = some g → w.heap.size ≤ g) → wpList P ops Q rest (a.put o.dst v') w') :
    wpList P ops Q (o :: rest) a w := by
  have hown0 := hown
  obtain ⟨hl, h⟩ := hown
  rcases h with ⟨rfl, rfl⟩ | ⟨g, cap, cur, rfl, hbg, hg', hnc, hcm, hcs, htake⟩
  · refine wpList_append_grows w hg s x t hop e i z size bytes h1 h2 h3 h4 h5 h6 h7 none 0 0 xs hs (fun _ => ⟨rfl, rfl⟩) hl (fun b hb => by cases hb) ad m c news hx hn hc h1c (by omega) b1 b2 fun v' w' ho hgr => ?_
    exact hK v' w' (owns_base ho hb) (grown_any hgr _) (.inr fun g hg => (ho.lt g hg).1)
  · by_cases hfit : n + m ≤ cap
    · exact wpList_append_fits w hg s x t hop base e i size h1 h2 h4 g n cap xs hs hown0 ad m c news hx hn hc h1c hfit fun w' ho hgr => hK _ w' ho hgr (.inl rfl)
    · refine wpList_append_grows w hg s x t hop e i z size bytes h1 h2 h3 h4 h5 h6 h7 (some ⟨g, 0, none⟩) n cap xs hs (fun h => by cases h) hl (fun b hb j u hu => ?_) ad m c news hx hn hc h1c (by omega) b1 b2 fun v' w' ho hgr => ?_
      · obtain rfl := Option.some.inj hb
        exact hown0.cells rfl j u hu
      · exact hK v' w' (owns_base ho hb) (grown_any hgr _) (.inr fun g hg => (ho.lt g hg).1)
/-- Two rows that lie apart. -/
def Off2 (v u : Value) : Prop := v.ownBlock = none ∨ v.ownBlock ≠ u.ownBlock
theorem Off2.symm {v u : Value} (h : Off2 v u) : Off2 u v := by
  unfold Off2 at *
  rcases h with h | h
  · rw [h]
    cases u.ownBlock with
    | none => exact .inl rfl
    | some g => exact .inr (by simp)
  · exact .inr (Ne.symm h)
theorem Off2.step {w : World} {base n size : Nat} {e : TypeId} {v u u' : Value} {xs : List Value} (h : Off2 v u) (hv : w.ownsRow base e size v n xs) (hu : u'.ownBlock = u.ownBlock ∨ ∀ g, u'.ownBlock = some g → w.heap.size ≤ g) : Off2 v u' := by
  unfold Off2 at *
  rcases hu with hu | hu
  · rw [hu]; exact h
  · cases hb : v.ownBlock with
    | none => exact .inl rfl
    | some g =>
      refine .inr fun he => ?_
      have h1 := hu g he.symm
      have h2 := (hv.lt g hb).2
      omega
end Go.Proofs.YtggohceeeggnmaaGreat

namespace Go.Proofs.YtggohceeeggnmaaGreat
set_option linter.unusedVariables false
set_option linter.unusedVariables false
open Ieee

/-- The word of a whole number with a sign (a 0 has one, too). -/
def fb (neg : Bool) (c : Nat) : Nat := double.nearest neg c 0
/-! Whole numbers whose 0 has no sign. -/
def fw (n : Int) : Nat := fb (n < 0) n.natAbs
end Go.Proofs.YtggohceeeggnmaaGreat

namespace Go.Proofs.YtggohceeeggnmaaGreat
set_option linter.unusedVariables false
open Ieee

/-- The sign of a whole number, of a 0 as told. -/
def zn (n : Int) (z : Bool) : Bool := if n = 0 then z else decide (n < 0)
def ww (n : Int) (z : Bool) : Nat := fb (zn n z) n.natAbs
theorem ww_fw (n : Int) : ww n false = fw n := by
  unfold ww fw zn
  by_cases h : n = 0
  · subst h; rfl
  · rw [if_neg h]
theorem ofInt_ww (n : Int) : floatOfInt .f64 n = ww n false := by rw [ww_fw]; rfl
/-! Words of any kind. -/
/-- Within the bounds, by the comparisons that are made. -/
def inLo (x : Nat) : Bool := double.order 13920626448202203136 x == some .lt || double.order 13920626448202203136 x == some .eq
def inHi (x : Nat) : Bool := double.order x 4697254411347427328 == some .lt || double.order x 4697254411347427328 == some .eq
/-- Without what is behind the point. -/
def truncw (x : Nat) : Nat := double.write ((double.read x).integral .zero)
def isT (x : Nat) : Bool := double.order x (truncw x) == some .eq
def wp (x : Nat) : Bool := inLo x && (inHi x && isT x)
end Go.Proofs.YtggohceeeggnmaaGreat

namespace Go.Proofs.YtggohceeeggnmaaGreat
set_option linter.unusedVariables false
open Go.ChangeShapes Go.WideShapes Go.ChangeAt Go.RowKit

set_option maxHeartbeats 4000000 in
theorem pick_c (n m : Int) (hn : -9223372036854775808 ≤ n) (hn' : n ≤ 9223372036854775807) (hm : 0 < m) (hm' : m ≤ 9223372036854775807) (W : World) :
    Calls Tryz.prog 30 #[.int .i64 n, .int .i64 m] W fun e w' => e = .returned (.int .i64 (n % m)) ∧ W = w' := by
  have h1 := Int.emod_nonneg n (show m ≠ 0 by omega)
  have h2 := Int.emod_lt_of_pos n hm
  by_cases h0 : 0 ≤ n
  · have h3 : ¬ n % m < 0 := by omega
    go_enter Tryz.func30, Tryz.ntmps30
    go_wp2_with fail
    go_ret
    exact ⟨rfl, rfl⟩
  · have h4 : n.tmod m = -((-n).tmod m) := by rw [Int.neg_tmod]; omega
    have h5 : (-n).tmod m = (-n) % m := Int.tmod_eq_emod_of_nonneg (by omega)
    have h6 := Int.emod_nonneg (-n) (show m ≠ 0 by omega)
    have h7 := Int.emod_lt_of_pos (-n) hm
    have h8 : n % m = if n.tmod m < 0 then n.tmod m + m else n.tmod m := by
      have h9 := Int.tmod_eq_emod (a := n) (b := m)
      have h10 : m.natAbs = m := by omega
      split at h9 <;> split <;> omega
    rw [h8]
    clear h8
    by_cases h11 : n.tmod m < 0
    · rw [if_pos h11]
      have hb : -m < n.tmod m := by omega
      clear h4 h5 h6 h7 h1 h2
      go_enter Tryz.func30, Tryz.ntmps30
      go_wp2_with fail
      go_ret
      exact ⟨rfl, rfl⟩
    · rw [if_neg h11]
      clear h4 h5 h6 h7 h1 h2
      go_enter Tryz.func30, Tryz.ntmps30
      go_wp2_with fail
      go_ret
      exact ⟨rfl, rfl⟩

set_option maxHeartbeats 4000000 in
theorem hnum_c (n : Int) (hn : -9223372036854775808 ≤ n) (hn' : n ≤ 9223372036854775807) (W : World) :
    Calls Tryz.prog 77 #[.int .i64 n] W fun e w' => e = .returned (.int .i64 (hnum n)) ∧ W = w' := by
  have d := tdiv_bd n 9 hn hn' (by omega)
  have p0 := Int.emod_nonneg n (show (9 : Int) ≠ 0 by omega)
  have p1 := Int.emod_lt_of_pos n (show (0 : Int) < 9 by omega)
  have e : ∃ y, y = hnum n := ⟨_, rfl⟩
  obtain ⟨y, hy⟩ := e
  rw [← hy]
  unfold hnum at hy
  by_cases h0 : n % 9 = 0
  · rw [if_pos h0] at hy
    have HY := Lib.hid hy
    clear hy
    go_enter Tryz.func77, Tryz.ntmps77
    go_wp2_with (first | (go_at_call 30; (with_reducible refine (pick_c _ _ (by omega) (by omega) (by omega) (by omega) _).mono ?_); rintro e w' ⟨rfl, rfl⟩))
    go_ret
    exact ⟨ret_int HY.out.symm, rfl⟩
  · rw [if_neg h0] at hy
    by_cases h1 : n % 9 = 1
    · rw [if_pos h1] at hy
      have HY := Lib.hid hy
      clear hy
      go_enter Tryz.func77, Tryz.ntmps77
      go_wp2_with (first | (go_at_call 30; (with_reducible refine (pick_c _ _ (by omega) (by omega) (by omega) (by omega) _).mono ?_); rintro e w' ⟨rfl, rfl⟩))
      go_ret
      exact ⟨ret_int HY.out.symm, rfl⟩
    · rw [if_neg h1] at hy
      by_cases h2 : n % 9 = 2
      · rw [if_pos h2] at hy
        have HY := Lib.hid hy
        clear hy
        go_enter Tryz.func77, Tryz.ntmps77
        go_wp2_with (first | (go_at_call 30; (with_reducible refine (pick_c _ _ (by omega) (by omega) (by omega) (by omega) _).mono ?_); rintro e w' ⟨rfl, rfl⟩))
        go_ret
        exact ⟨ret_int HY.out.symm, rfl⟩
      · rw [if_neg h2] at hy
        by_cases h3 : n % 9 = 3
        · rw [if_pos h3] at hy
          have HY := Lib.hid hy
          clear hy
          go_enter Tryz.func77, Tryz.ntmps77
          go_wp2_with (first | (go_at_call 30; (with_reducible refine (pick_c _ _ (by omega) (by omega) (by omega) (by omega) _).mono ?_); rintro e w' ⟨rfl, rfl⟩))
          go_ret
          exact ⟨ret_int HY.out.symm, rfl⟩
        · rw [if_neg h3] at hy
          have HY := Lib.hid hy
          clear hy
          go_enter Tryz.func77, Tryz.ntmps77
          go_wp2_with (first | (go_at_call 30; (with_reducible refine (pick_c _ _ (by omega) (by omega) (by omega) (by omega) _).mono ?_); rintro e w' ⟨rfl, rfl⟩))
          go_ret
          exact ⟨ret_int HY.out.symm, rfl⟩

end Go.Proofs.YtggohceeeggnmaaGreat

namespace Go.Proofs.YtggohceeeggnmaaGreat
set_option linter.unusedVariables false
open Go.ChangeShapes Go.WideShapes Go.ChangeAt Go.RowKit

/-- A complex number of whole parts, with the signs of its zeros. -/
structure Cx where
  x : Int
  s : Bool
  y : Int
  t : Bool
@[reducible] def cxV (c : Cx) : Value := .complex .f64 (ww c.x c.s) (ww c.y c.t)
/-- Any complex number. -/
structure Cw where
  a : Nat
  b : Nat
@[reducible] def cwV (c : Cw) : Value := .complex .f64 c.a c.b
structure Pt where
  x : Int
  y : Int
@[reducible] def ptV (p : Pt) : Value := .agg #[.int .i64 p.x, .int .i64 p.y]
structure Bm where
  n : Cx
  d : Cx
@[reducible] def bmV (b : Bm) : Value := .agg #[cxV b.n, cxV b.d]
structure Bp where
  n : Pt
  d : Pt
@[reducible] def bpV (b : Bp) : Value := .agg #[.int .i64 b.n.x, .int .i64 b.n.y, .int .i64 b.d.x, .int .i64 b.d.y]
structure M4 where
  a : Int
  b : Int
  c : Int
  d : Int
@[reducible] def m4V (m : M4) : Value := .agg #[.int .i64 m.a, .int .i64 m.b, .int .i64 m.c, .int .i64 m.d]
@[go_sem] theorem fmt64 : FloatKind.f64.format = Ieee.double := rfl
@[go_sem] theorem unary_negf (k : FloatKind) (b : Nat) : Op.unary .neg (.float k b) = pure (.float k (Op.negFloat k b)) := rfl
section
variable (P : Program) (w : World) (a : Addr) (m : Mode)
@[go_sem] theorem run_store_complex (k : FloatKind) (x y : Nat) : (store a (.complex k x y) m).run P w = stored P w a (.complex k x y) m := run_store P w a _ m rfl
@[go_sem] theorem run_store_float (k : FloatKind) (x : Nat) : (store a (.float k x) m).run P w = stored P w a (.float k x) m := run_store P w a _ m rfl
end


attribute [go_sem] ofInt_ww

/-! What operations on whole parts give. -/
section
variable {P : Program}
@[reducible] def In52 (n : Int) : Prop := -4503599627370495 ≤ n ∧ n ≤ 4503599627370495
end
@[go_sem] theorem and3 (n : Int) : _root_.Go.bits .and .i64 n 3 = n % 4 := by
  have h3 : (BitVec.ofInt 64 3).toNat = 2 ^ 2 - 1 := by decide
  have key : (BitVec.ofInt 64 n &&& BitVec.ofInt 64 3).toNat = (n % ((2 ^ 64 : Nat) : Int)).toNat % 2 ^ 2 := by
    rw [BitVec.toNat_and, BitVec.toNat_ofInt, h3, Nat.and_two_pow_sub_one_eq_mod]
  show IntKind.i64.wrap ((BitVec.ofInt 64 n &&& BitVec.ofInt 64 3).toNat : Nat) = n % 4
  rw [key, IntKind.wrap_i64]
  omega

/-! In plain numbers. -/
@[reducible] def cxP (p : Pt) : Value := .complex .f64 (ww p.x false) (ww p.y false)

structure Fx where
  n : Int
  z : Bool
@[reducible] def fxV (f : Fx) : Value := .float .f64 (ww f.n f.z)

/-- The whole number of a complex one. -/
def Cx.pt (c : Cx) : Pt := ⟨c.x, c.y⟩
def Bm.bp (b : Bm) : Bp := ⟨b.n.pt, b.d.pt⟩
end Go.Proofs.YtggohceeeggnmaaGreat

namespace Go.Proofs.YtggohceeeggnmaaGreat
set_option linter.unusedVariables false
open Go.ChangeShapes Go.WideShapes Go.ChangeAt Go.RowKit

set_option maxHeartbeats 4000000 in
theorem rin_c (n : Int) (W : World) :
    Calls Tryz.prog 88 #[.int .i64 n] W fun e w' => e = .returned (.bool (isIn n)) ∧ W = w' := by
  by_cases h1 : -1073741824 ≤ n <;> by_cases h2 : n ≤ 1073741824
  all_goals
    go_enter Tryz.func88, Tryz.ntmps88
    go_wp2_with fail
    go_ret
    exact ⟨by simp [isIn, h1, h2], rfl⟩

set_option maxHeartbeats 4000000 in
theorem rtold_c (n : Int) (W : World) :
    Calls Tryz.prog 116 #[.int .i64 n] W fun e w' => e = .returned (.tuple #[.int .i64 (told n).1, .bool (told n).2]) ∧ W = w' := by
  by_cases h1 : isIn n = true
  all_goals
    go_enter Tryz.func116, Tryz.ntmps116
    go_wp2_with (first | (go_at_call 88; (with_reducible refine (rin_c _ _).mono ?_); rintro e w' ⟨rfl, rfl⟩))
    go_ret2
    exact ⟨by simp [told, h1], rfl⟩

set_option maxHeartbeats 4000000 in
theorem rfloor_c (a b : Int) (ha : -9223372036854775808 ≤ a) (ha' : a ≤ 9223372036854775807) (hn : ¬ (a = -9223372036854775808 ∧ b = -1)) (W : World) :
    Calls Tryz.prog 107 #[.int .i64 a, .int .i64 b] W fun e w' => e = .returned (.int .i64 (a.fdiv b)) ∧ W = w' := by
  have hb := tdiv_bd a b ha ha' hn
  clear hn
  by_cases h0 : b = 0
  · subst h0
    go_enter Tryz.func107, Tryz.ntmps107
    go_wp2_with fail
    go_ret
    exact ⟨ret_int (by simp), rfl⟩
  · have hf := fdiv_of a b h0
    by_cases hr : a.tmod b = 0
    · rw [if_neg (by simp [hr])] at hf
      rw [hf]
      clear hf
      go_enter Tryz.func107, Tryz.ntmps107
      go_wp2_with fail
      go_ret
      exact ⟨rfl, rfl⟩
    · have hb2 := tdiv_bd2 a b ha ha' hr
      have hr2 : 0 ≤ a → ¬ a % b = 0 := fun h => by rw [← Int.tmod_eq_emod_of_nonneg h]; exact hr
      have hs : 0 ≤ a → ¬ a % b < 0 := fun h => by have := Int.emod_nonneg a h0; omega
      have hs1 : a < 0 → a.tmod b < 0 := fun h => by
        have h1 : a.tmod b = -((-a).tmod b) := by rw [Int.neg_tmod]; omega
        have h2 := Int.tmod_nonneg b (show 0 ≤ -a by omega)
        omega
      by_cases h1 : a < 0 <;> by_cases h2 : b < 0
      all_goals
        first
        | (rw [if_neg (fun h => h.2 (by omega))] at hf)
        | (rw [if_pos ⟨hr, by omega⟩] at hf)
        rw [hf]
        clear hf
        first
        | (have hr3 := hr2 (by omega); have hs3 := hs (by omega))
        | have hs3 := hs1 (by omega)
        clear hr2 hs hs1
        go_enter Tryz.func107, Tryz.ntmps107
        go_wp2_with fail
        go_ret
        exact ⟨rfl, rfl⟩


set_option maxHeartbeats 4000000 in
theorem rceil_c (a b : Int) (ha : -1152921504606846976 ≤ a ∧ a ≤ 1152921504606846976) (hb : -1152921504606846976 ≤ b ∧ b ≤ 1152921504606846976) (h0 : b ≠ 0) (W : World) :
    Calls Tryz.prog 109 #[.int .i64 a, .int .i64 b] W fun e w' => e = .returned (.int .i64 (-((-a).fdiv b))) ∧ W = w' := by
  rw [ceil_eq a b h0]
  have h1 := fdiv_abs a b
  have h2 := fdiv_mul_bd a b ha hb
  by_cases hc : a.fdiv b * b = a
  · rw [if_pos hc]
    have HC := Lib.hid hc
    have hd : ((a.fdiv b * b) == a) = true := by simp [hc]
    clear hc
    go_enter Tryz.func109, Tryz.ntmps109
    go_wp2_with (first | (go_at_call 107; (with_reducible refine (rfloor_c _ _ (by omega) (by omega) (by omega) _).mono ?_); rintro e w' ⟨rfl, rfl⟩))
    go_ret
    exact ⟨rfl, rfl⟩
  · rw [if_neg hc]
    go_enter Tryz.func109, Tryz.ntmps109
    go_wp2_with (first | (go_at_call 107; (with_reducible refine (rfloor_c _ _ (by omega) (by omega) (by omega) _).mono ?_); rintro e w' ⟨rfl, rfl⟩))
    go_ret
    exact ⟨rfl, rfl⟩

set_option maxHeartbeats 4000000 in
theorem rmul_c (a b : Int) (up : Bool) (W : World) :
    Calls Tryz.prog 87 #[.int .i64 a, .int .i64 b, .bool up] W fun e w' => e = .returned (.tuple #[.int .i64 (mulN a b up).1, .bool (mulN a b up).2]) ∧ W = w' := by
  by_cases ha : isIn a = true <;> by_cases hb : isIn b = true
  · have h1 := in_mul ha hb
    have e : mulN a b up = told (quo (a * b) 65536 up) := by simp [mulN, ha, hb]
    rw [e]
    clear e
    cases up
    all_goals
      first | rw [quo_up] | rw [quo_dn]
      go_enter Tryz.func87, Tryz.ntmps87
      go_wp2_with (first | (go_at_call 88; (with_reducible refine (rin_c _ _).mono ?_); rintro e w' ⟨rfl, rfl⟩) | (go_at_call 107; (with_reducible refine (rfloor_c _ _ (by omega) (by omega) (by omega) _).mono ?_); rintro e w' ⟨rfl, rfl⟩) | (go_at_call 109; (with_reducible refine (rceil_c _ _ (by omega) (by omega) (by omega) _).mono ?_); rintro e w' ⟨rfl, rfl⟩) | (go_at_call 116; (with_reducible refine (rtold_c _ _).mono ?_); rintro e w' ⟨rfl, rfl⟩))
      go_ret2
      exact ⟨rfl, rfl⟩
  all_goals
    have e : mulN a b up = (0, false) := by simp [mulN, ha, hb]
    rw [e]
    clear e
    go_enter Tryz.func87, Tryz.ntmps87
    go_wp2_with (first | (go_at_call 88; (with_reducible refine (rin_c _ _).mono ?_); rintro e w' ⟨rfl, rfl⟩) | (go_at_call 107; (with_reducible refine (rfloor_c _ _ (by omega) (by omega) (by omega) _).mono ?_); rintro e w' ⟨rfl, rfl⟩) | (go_at_call 109; (with_reducible refine (rceil_c _ _ (by omega) (by omega) (by omega) _).mono ?_); rintro e w' ⟨rfl, rfl⟩) | (go_at_call 116; (with_reducible refine (rtold_c _ _).mono ?_); rintro e w' ⟨rfl, rfl⟩))
    go_ret2
    exact ⟨rfl, rfl⟩

set_option maxHeartbeats 4000000 in
theorem rdiv_c (a b : Int) (up : Bool) (W : World) :
    Calls Tryz.prog 115 #[.int .i64 a, .int .i64 b, .bool up] W fun e w' => e = .returned (.tuple #[.int .i64 (divN a b up).1, .bool (divN a b up).2]) ∧ W = w' := by
  by_cases ha : isIn a = true <;> by_cases hb : isIn b = true <;> by_cases h0 : (b == 0) = true
  case neg =>
    have h1 := isIn_iff.1 ha
    have h2 := isIn_iff.1 hb
    have h3 : b ≠ 0 := by simpa using h0
    have e : divN a b up = told (quo (a * 65536) b up) := by simp [divN, ha, hb, h3]
    rw [e]
    clear e
    cases up
    all_goals
      first | rw [quo_up] | rw [quo_dn]
      go_enter Tryz.func115, Tryz.ntmps115
      go_wp2_with (first | (go_at_call 88; (with_reducible refine (rin_c _ _).mono ?_); rintro e w' ⟨rfl, rfl⟩) | (go_at_call 107; (with_reducible refine (rfloor_c _ _ (by omega) (by omega) (by omega) _).mono ?_); rintro e w' ⟨rfl, rfl⟩) | (go_at_call 109; (with_reducible refine (rceil_c _ _ (by omega) (by omega) (by omega) _).mono ?_); rintro e w' ⟨rfl, rfl⟩) | (go_at_call 116; (with_reducible refine (rtold_c _ _).mono ?_); rintro e w' ⟨rfl, rfl⟩))
      go_ret2
      exact ⟨rfl, rfl⟩
  all_goals
    have e : divN a b up = (0, false) := by simp only [divN, ha, hb, h0]; rfl
    rw [e]
    clear e
    go_enter Tryz.func115, Tryz.ntmps115
    go_wp2_with (first | (go_at_call 88; (with_reducible refine (rin_c _ _).mono ?_); rintro e w' ⟨rfl, rfl⟩) | (go_at_call 107; (with_reducible refine (rfloor_c _ _ (by omega) (by omega) (by omega) _).mono ?_); rintro e w' ⟨rfl, rfl⟩) | (go_at_call 109; (with_reducible refine (rceil_c _ _ (by omega) (by omega) (by omega) _).mono ?_); rintro e w' ⟨rfl, rfl⟩) | (go_at_call 116; (with_reducible refine (rtold_c _ _).mono ?_); rintro e w' ⟨rfl, rfl⟩))
    go_ret2
    exact ⟨rfl, rfl⟩

set_option maxHeartbeats 4000000 in
theorem rroot_c (a : Int) (up : Bool) (W : World) :
    Calls Tryz.prog 110 #[.int .i64 a, .bool up] W fun e w' => e = .returned (.tuple #[.int .i64 (rootN a up).1, .bool (rootN a up).2]) ∧ W = w' := by
  by_cases ha : isIn a = true <;> by_cases h0 : a < 0
  case neg =>
    have h1 := isIn_iff.1 ha
    have ⟨y1, y2⟩ := in_root ha h0
    have y3 := mul_bd (a := flRoot (a * 65536)) (b := flRoot (a * 65536)) (A := 8388608) (B := 8388608) (by omega) (by omega)
    have e : rootN a up = told (upRoot (a * 65536) up) := by simp [rootN, ha, h0]
    have e2 : ∃ y, y = upRoot (a * 65536) up := ⟨_, rfl⟩
    obtain ⟨y, hy⟩ := e2
    rw [e, ← hy]
    clear e
    have HY := Lib.hid hy
    clear hy
    cases up <;> by_cases hr : (flRoot (a * 65536) * flRoot (a * 65536) == a * 65536) = true
    all_goals
      have hy := HY.out
      simp [upRoot, hr] at hy
      have HY2 := Lib.hid hy
      clear hy HY
      have hr2 : (flRoot (a * 65536) * flRoot (a * 65536) != a * 65536) = !(flRoot (a * 65536) * flRoot (a * 65536) == a * 65536) := rfl
      (try simp only [Bool.not_eq_true] at hr)
      rw [hr] at hr2
      simp only [Bool.not_true, Bool.not_false] at hr2
      go_enter Tryz.func110, Tryz.ntmps110
      go_wp2_with (first | (go_at_call 88; (with_reducible refine (rin_c _ _).mono ?_); rintro e w' ⟨rfl, rfl⟩) | (go_at_call 116; (with_reducible refine (rtold_c _ _).mono ?_); rintro e w' ⟨rfl, rfl⟩))
      go_loop [7, 8] (fun r b => ∃ (k : Nat) (x : Int), k ≤ 24 ∧ b = .int .i64 ((k : Int) - 1) ∧ r = .int .i64 x ∧ 0 ≤ x ∧ x + 2 * bitv k ≤ 16777216 ∧ rootGo (a * 65536) k x = flRoot (a * 65536)) (fun _ b => (intOf b + 1).toNat)
      case atStart => exact ⟨24, 0, by omega, rfl, rfl, by omega, by decide, rfl⟩
      case round =>
        obtain ⟨k, x, hk, rfl, rfl, hx, hx2, hg⟩ := hrel
        cases k with
        | zero =>
          have hg2 : x = flRoot (a * 65536) := hg
          subst hg2
          clear hg
          go_wp2_with (first | (go_at_call 88; refine (rin_c _ _).mono ?_; rintro e w' ⟨rfl, rfl⟩) | (go_at_call 116; refine (rtold_c _ _).mono ?_; rintro e w' ⟨rfl, rfl⟩))
          go_ret2
          rw [HY2.out]
          exact ⟨rfl, rfl⟩
        | succ k =>
          have b1 := bitv_pos k
          have b2 := bitv_le k (by omega)
          have b3 := bitv_half k
          have b4 := mul_bd (a := x + bitv (k + 1)) (b := x + bitv (k + 1)) (A := 16777216) (B := 16777216) (by omega) (by omega)
          rw [rootGo_succ] at hg
          have b5 : 2 * bitv k ≤ bitv (k + 1) := by omega
          have B5 := Lib.hid b5
          clear b3 b5
          have hc : bitv (k + 1) = 2 ^ k := rfl
          rw [hc] at hg hx2 b1 b2 b4 B5
          clear hc
          have HG := Lib.hid hg
          clear hg
          have hk1 : ((k + 1 : Nat) : Int) - 1 = (k : Int) := by omega
          rw [hk1]
          clear hk1
          by_cases hc : (x + 2 ^ k) * (x + 2 ^ k) ≤ a * 65536
          · go_wp2
            go_round
            case rel => exact ⟨k, x + 2 ^ k, by omega, rfl, rfl, by omega, by have := B5.out; omega, by have := HG.out; rw [if_pos hc] at this; exact this⟩
            case measure => simp [intOf]
          · go_wp2
            go_round
            case rel => exact ⟨k, x, by omega, rfl, rfl, by omega, by have := B5.out; omega, by have := HG.out; rw [if_neg hc] at this; exact this⟩
            case measure => simp [intOf]
  all_goals
    have e : rootN a up = (0, false) := by simp [rootN, ha, h0]
    rw [e]
    clear e
    go_enter Tryz.func110, Tryz.ntmps110
    go_wp2_with (first | (go_at_call 88; (with_reducible refine (rin_c _ _).mono ?_); rintro e w' ⟨rfl, rfl⟩) | (go_at_call 116; (with_reducible refine (rtold_c _ _).mono ?_); rintro e w' ⟨rfl, rfl⟩))
    go_ret2
    exact ⟨rfl, rfl⟩

end Go.Proofs.YtggohceeeggnmaaGreat

namespace Go.Proofs.YtggohceeeggnmaaGreat
set_option linter.unusedVariables false
open Go.ChangeShapes Go.WideShapes Go.ChangeAt Go.RowKit

set_option maxHeartbeats 4000000 in
theorem rright_c (a : Iv) (W : World) :
    Calls Tryz.prog 85 #[ivV a] W fun e w' => e = .returned (.bool (ivRight a)) ∧ More W w' := by
  unfold ivRight
  cases h0 : a.no <;> cases h1 : isIn a.lo <;> cases h2 : isIn a.hi <;> cases h3 : decide (a.lo ≤ a.hi)
  all_goals
    go_enter Tryz.func85, Tryz.ntmps85
    go_wp2_with (first | (go_at_call 88; (with_reducible refine (rin_c _ _).mono ?_); rintro e w' ⟨rfl, rfl⟩))
    go_returns
    exact ⟨rfl, (by repeat (first | exact More.refl _ | refine More.alloc ?_ _ | refine More.more ?_ _ | refine More.drew ?_ | refine More.drewN ?_ _))⟩

set_option maxHeartbeats 4000000 in
theorem rnone_c  (W : World) :
    Calls Tryz.prog 73 #[] W fun e w' => e = .returned (ivV ivNone) ∧ More W w' := by
  go_enter Tryz.func73, Tryz.ntmps73
  go_wp2_with fail
  go_returns
  exact ⟨rfl, (by repeat (first | exact More.refl _ | refine More.alloc ?_ _ | refine More.more ?_ _ | refine More.drew ?_ | refine More.drewN ?_ _))⟩

set_option maxHeartbeats 4000000 in
theorem rof_c (a b : Int) (W : World) :
    Calls Tryz.prog 45 #[.int .i64 a, .int .i64 b] W fun e w' => e = .returned (ivV (ivOf a b)) ∧ More W w' := by
  unfold ivOf
  by_cases h : ivRight ⟨a, b, false⟩ = true
  · rw [if_pos h]
    go_enter Tryz.func45, Tryz.ntmps45
    go_wp2_with (first | (go_at_call 73; (with_reducible refine (rnone_c _).mono ?_); rintro e w' ⟨rfl, r, rfl⟩) | (go_at_call 85; (with_reducible refine (rright_c _ _).mono ?_); rintro e w' ⟨rfl, r, rfl⟩) | (go_at_call 85; (with_reducible refine (rright_c ⟨_, _, _⟩ _).mono ?_); rintro e w' ⟨rfl, r, rfl⟩))
    go_returns
    exact ⟨rfl, (by repeat (first | exact More.refl _ | refine More.alloc ?_ _ | refine More.more ?_ _ | refine More.drew ?_ | refine More.drewN ?_ _))⟩
  · rw [if_neg h]
    go_enter Tryz.func45, Tryz.ntmps45
    go_wp2_with (first | (go_at_call 73; (with_reducible refine (rnone_c _).mono ?_); rintro e w' ⟨rfl, r, rfl⟩) | (go_at_call 85; (with_reducible refine (rright_c _ _).mono ?_); rintro e w' ⟨rfl, r, rfl⟩) | (go_at_call 85; (with_reducible refine (rright_c ⟨_, _, _⟩ _).mono ?_); rintro e w' ⟨rfl, r, rfl⟩))
    go_returns
    exact ⟨rfl, (by repeat (first | exact More.refl _ | refine More.alloc ?_ _ | refine More.more ?_ _ | refine More.drew ?_ | refine More.drewN ?_ _))⟩

set_option maxHeartbeats 4000000 in
theorem rpoint_c (n : Int) (W : World) :
    Calls Tryz.prog 66 #[.int .i64 n] W fun e w' => e = .returned (ivV (ivPoint n)) ∧ More W w' := by
  go_enter Tryz.func66, Tryz.ntmps66
  go_wp2_with (first | (go_at_call 45; (with_reducible refine (rof_c _ _ _).mono ?_); rintro e w' ⟨rfl, r, rfl⟩))
  go_returns
  exact ⟨rfl, (by repeat (first | exact More.refl _ | refine More.alloc ?_ _ | refine More.more ?_ _ | refine More.drew ?_ | refine More.drewN ?_ _))⟩

set_option maxHeartbeats 4000000 in
theorem rwhole_c (n : Int) (W : World) :
    Calls Tryz.prog 133 #[.int .i64 n] W fun e w' => e = .returned (ivV (ivWhole n)) ∧ More W w' := by
  unfold ivWhole
  by_cases h : isIn n = true
  · rw [if_pos h]
    have hb := isIn_iff.1 h
    go_enter Tryz.func133, Tryz.ntmps133
    go_wp2_with (first | (go_at_call 66; (with_reducible refine (rpoint_c _ _).mono ?_); rintro e w' ⟨rfl, r, rfl⟩) | (go_at_call 73; (with_reducible refine (rnone_c _).mono ?_); rintro e w' ⟨rfl, r, rfl⟩) | (go_at_call 88; (with_reducible refine (rin_c _ _).mono ?_); rintro e w' ⟨rfl, rfl⟩))
    go_returns
    exact ⟨rfl, (by repeat (first | exact More.refl _ | refine More.alloc ?_ _ | refine More.more ?_ _ | refine More.drew ?_ | refine More.drewN ?_ _))⟩
  · rw [if_neg h]
    go_enter Tryz.func133, Tryz.ntmps133
    go_wp2_with (first | (go_at_call 66; (with_reducible refine (rpoint_c _ _).mono ?_); rintro e w' ⟨rfl, r, rfl⟩) | (go_at_call 73; (with_reducible refine (rnone_c _).mono ?_); rintro e w' ⟨rfl, r, rfl⟩) | (go_at_call 88; (with_reducible refine (rin_c _ _).mono ?_); rintro e w' ⟨rfl, rfl⟩))
    go_returns
    exact ⟨rfl, (by repeat (first | exact More.refl _ | refine More.alloc ?_ _ | refine More.more ?_ _ | refine More.drew ?_ | refine More.drewN ?_ _))⟩

set_option maxHeartbeats 4000000 in
theorem radd_c (a b : Iv) (W : World) :
    Calls Tryz.prog 40 #[ivV a, ivV b] W fun e w' => e = .returned (ivV (ivAdd a b)) ∧ More W w' := by
  unfold ivAdd ivBoth
  cases h0 : ivRight a <;> cases h1 : ivRight b
  case true.true =>
    obtain ⟨⟨b1, b2⟩, ⟨b3, b4⟩, b5⟩ := right_bd h0
    obtain ⟨⟨c1, c2⟩, ⟨c3, c4⟩, c5⟩ := right_bd h1
    go_enter Tryz.func40, Tryz.ntmps40
    go_wp2_with (first | (go_at_call 45; (with_reducible refine (rof_c _ _ _).mono ?_); rintro e w' ⟨rfl, r, rfl⟩) | (go_at_call 73; (with_reducible refine (rnone_c _).mono ?_); rintro e w' ⟨rfl, r, rfl⟩) | (go_at_call 85; (with_reducible refine (rright_c _ _).mono ?_); rintro e w' ⟨rfl, r, rfl⟩) | (go_at_call 85; (with_reducible refine (rright_c ⟨_, _, _⟩ _).mono ?_); rintro e w' ⟨rfl, r, rfl⟩))
    go_returns
    exact ⟨rfl, (by repeat (first | exact More.refl _ | refine More.alloc ?_ _ | refine More.more ?_ _ | refine More.drew ?_ | refine More.drewN ?_ _))⟩
  all_goals
    go_enter Tryz.func40, Tryz.ntmps40
    go_wp2_with (first | (go_at_call 45; (with_reducible refine (rof_c _ _ _).mono ?_); rintro e w' ⟨rfl, r, rfl⟩) | (go_at_call 73; (with_reducible refine (rnone_c _).mono ?_); rintro e w' ⟨rfl, r, rfl⟩) | (go_at_call 85; (with_reducible refine (rright_c _ _).mono ?_); rintro e w' ⟨rfl, r, rfl⟩) | (go_at_call 85; (with_reducible refine (rright_c ⟨_, _, _⟩ _).mono ?_); rintro e w' ⟨rfl, r, rfl⟩))
    go_returns
    exact ⟨rfl, (by repeat (first | exact More.refl _ | refine More.alloc ?_ _ | refine More.more ?_ _ | refine More.drew ?_ | refine More.drewN ?_ _))⟩

set_option maxHeartbeats 4000000 in
theorem rsub_c (a b : Iv) (W : World) :
    Calls Tryz.prog 38 #[ivV a, ivV b] W fun e w' => e = .returned (ivV (ivSub a b)) ∧ More W w' := by
  rw [sub_eq]
  unfold ivBoth
  cases h0 : ivRight a <;> cases h1 : ivRight b
  case true.true =>
    obtain ⟨⟨b1, b2⟩, ⟨b3, b4⟩, b5⟩ := right_bd h0
    obtain ⟨⟨c1, c2⟩, ⟨c3, c4⟩, c5⟩ := right_bd h1
    go_enter Tryz.func38, Tryz.ntmps38
    go_wp2_with (first | (go_at_call 45; (with_reducible refine (rof_c _ _ _).mono ?_); rintro e w' ⟨rfl, r, rfl⟩) | (go_at_call 73; (with_reducible refine (rnone_c _).mono ?_); rintro e w' ⟨rfl, r, rfl⟩) | (go_at_call 85; (with_reducible refine (rright_c _ _).mono ?_); rintro e w' ⟨rfl, r, rfl⟩) | (go_at_call 85; (with_reducible refine (rright_c ⟨_, _, _⟩ _).mono ?_); rintro e w' ⟨rfl, r, rfl⟩))
    go_returns
    exact ⟨rfl, (by repeat (first | exact More.refl _ | refine More.alloc ?_ _ | refine More.more ?_ _ | refine More.drew ?_ | refine More.drewN ?_ _))⟩
  all_goals
    go_enter Tryz.func38, Tryz.ntmps38
    go_wp2_with (first | (go_at_call 45; (with_reducible refine (rof_c _ _ _).mono ?_); rintro e w' ⟨rfl, r, rfl⟩) | (go_at_call 73; (with_reducible refine (rnone_c _).mono ?_); rintro e w' ⟨rfl, r, rfl⟩) | (go_at_call 85; (with_reducible refine (rright_c _ _).mono ?_); rintro e w' ⟨rfl, r, rfl⟩) | (go_at_call 85; (with_reducible refine (rright_c ⟨_, _, _⟩ _).mono ?_); rintro e w' ⟨rfl, r, rfl⟩))
    go_returns
    exact ⟨rfl, (by repeat (first | exact More.refl _ | refine More.alloc ?_ _ | refine More.more ?_ _ | refine More.drew ?_ | refine More.drewN ?_ _))⟩

set_option maxHeartbeats 4000000 in
theorem rtimes_c (a : Iv) (k : Int) (W : World) :
    Calls Tryz.prog 42 #[ivV a, .int .i64 k] W fun e w' => e = .returned (ivV (ivTimes a k)) ∧ More W w' := by
  unfold ivTimes
  by_cases h : ivRight a = true
  · by_cases h1 : isIn k = true
    · rw [h, h1]
      obtain ⟨⟨b1, b2⟩, ⟨b3, b4⟩, b5⟩ := right_bd h
      have p1 := mul_bd (A := 1073741824) (B := 1073741824) (isIn_iff.1 h1) ⟨b1, b2⟩
      have p2 := mul_bd (A := 1073741824) (B := 1073741824) (isIn_iff.1 h1) ⟨b3, b4⟩
      go_enter Tryz.func42, Tryz.ntmps42
      go_wp2_with (first | (go_at_call 45; (with_reducible refine (rof_c _ _ _).mono ?_); rintro e w' ⟨rfl, r, rfl⟩) | (go_at_call 73; (with_reducible refine (rnone_c _).mono ?_); rintro e w' ⟨rfl, r, rfl⟩) | (go_at_call 85; (with_reducible refine (rright_c _ _).mono ?_); rintro e w' ⟨rfl, r, rfl⟩) | (go_at_call 85; (with_reducible refine (rright_c ⟨_, _, _⟩ _).mono ?_); rintro e w' ⟨rfl, r, rfl⟩) | (go_at_call 88; (with_reducible refine (rin_c _ _).mono ?_); rintro e w' ⟨rfl, rfl⟩))
      go_returns
      exact ⟨rfl, (by repeat (first | exact More.refl _ | refine More.alloc ?_ _ | refine More.more ?_ _ | refine More.drew ?_ | refine More.drewN ?_ _))⟩
    · simp only [h, h1]
      go_enter Tryz.func42, Tryz.ntmps42
      go_wp2_with (first | (go_at_call 45; (with_reducible refine (rof_c _ _ _).mono ?_); rintro e w' ⟨rfl, r, rfl⟩) | (go_at_call 73; (with_reducible refine (rnone_c _).mono ?_); rintro e w' ⟨rfl, r, rfl⟩) | (go_at_call 85; (with_reducible refine (rright_c _ _).mono ?_); rintro e w' ⟨rfl, r, rfl⟩) | (go_at_call 85; (with_reducible refine (rright_c ⟨_, _, _⟩ _).mono ?_); rintro e w' ⟨rfl, r, rfl⟩) | (go_at_call 88; (with_reducible refine (rin_c _ _).mono ?_); rintro e w' ⟨rfl, rfl⟩))
      go_returns
      exact ⟨rfl, (by repeat (first | exact More.refl _ | refine More.alloc ?_ _ | refine More.more ?_ _ | refine More.drew ?_ | refine More.drewN ?_ _))⟩
  · simp only [h]
    go_enter Tryz.func42, Tryz.ntmps42
    go_wp2_with (first | (go_at_call 45; (with_reducible refine (rof_c _ _ _).mono ?_); rintro e w' ⟨rfl, r, rfl⟩) | (go_at_call 73; (with_reducible refine (rnone_c _).mono ?_); rintro e w' ⟨rfl, r, rfl⟩) | (go_at_call 85; (with_reducible refine (rright_c _ _).mono ?_); rintro e w' ⟨rfl, r, rfl⟩) | (go_at_call 85; (with_reducible refine (rright_c ⟨_, _, _⟩ _).mono ?_); rintro e w' ⟨rfl, r, rfl⟩) | (go_at_call 88; (with_reducible refine (rin_c _ _).mono ?_); rintro e w' ⟨rfl, rfl⟩))
    go_returns
    exact ⟨rfl, (by repeat (first | exact More.refl _ | refine More.alloc ?_ _ | refine More.more ?_ _ | refine More.drew ?_ | refine More.drewN ?_ _))⟩

set_option maxHeartbeats 4000000 in
theorem rmeet_c (a b : Iv) (W : World) :
    Calls Tryz.prog 93 #[ivV a, ivV b] W fun e w' => e = .returned (ivV (ivMeet a b)) ∧ More W w' := by
  unfold ivMeet ivBoth
  cases h0 : ivRight a <;> cases h1 : ivRight b
  all_goals
    go_enter Tryz.func93, Tryz.ntmps93
    go_wp2_with (first | (go_at_call 45; (with_reducible refine (rof_c _ _ _).mono ?_); rintro e w' ⟨rfl, r, rfl⟩) | (go_at_call 73; (with_reducible refine (rnone_c _).mono ?_); rintro e w' ⟨rfl, r, rfl⟩) | (go_at_call 85; (with_reducible refine (rright_c _ _).mono ?_); rintro e w' ⟨rfl, r, rfl⟩) | (go_at_call 85; (with_reducible refine (rright_c ⟨_, _, _⟩ _).mono ?_); rintro e w' ⟨rfl, r, rfl⟩))
    go_returns
    exact ⟨rfl, (by repeat (first | exact More.refl _ | refine More.alloc ?_ _ | refine More.more ?_ _ | refine More.drew ?_ | refine More.drewN ?_ _))⟩

set_option maxHeartbeats 4000000 in
theorem rmid_c (a : Iv) (W : World) :
    Calls Tryz.prog 89 #[ivV a] W fun e w' => e = .returned (.int .i64 (ivMid a)) ∧ More W w' := by
  unfold ivMid
  by_cases h : ivRight a = true
  · rw [if_pos h]
    obtain ⟨⟨b1, b2⟩, ⟨b3, b4⟩, b5⟩ := right_bd h
    go_enter Tryz.func89, Tryz.ntmps89
    go_wp2_with (first | (go_at_call 85; (with_reducible refine (rright_c _ _).mono ?_); rintro e w' ⟨rfl, r, rfl⟩) | (go_at_call 85; (with_reducible refine (rright_c ⟨_, _, _⟩ _).mono ?_); rintro e w' ⟨rfl, r, rfl⟩) | (go_at_call 107; (with_reducible refine (rfloor_c _ _ (by omega) (by omega) (by omega) _).mono ?_); rintro e w' ⟨rfl, rfl⟩))
    go_returns
    exact ⟨rfl, (by repeat (first | exact More.refl _ | refine More.alloc ?_ _ | refine More.more ?_ _ | refine More.drew ?_ | refine More.drewN ?_ _))⟩
  · rw [if_neg h]
    go_enter Tryz.func89, Tryz.ntmps89
    go_wp2_with (first | (go_at_call 85; (with_reducible refine (rright_c _ _).mono ?_); rintro e w' ⟨rfl, r, rfl⟩) | (go_at_call 85; (with_reducible refine (rright_c ⟨_, _, _⟩ _).mono ?_); rintro e w' ⟨rfl, r, rfl⟩) | (go_at_call 107; (with_reducible refine (rfloor_c _ _ (by omega) (by omega) (by omega) _).mono ?_); rintro e w' ⟨rfl, rfl⟩))
    go_returns
    exact ⟨rfl, (by repeat (first | exact More.refl _ | refine More.alloc ?_ _ | refine More.more ?_ _ | refine More.drew ?_ | refine More.drewN ?_ _))⟩

set_option maxHeartbeats 4000000 in
theorem rhas_c (a : Iv) (n : Int) (W : World) :
    Calls Tryz.prog 120 #[ivV a, .int .i64 n] W fun e w' => e = .returned (.bool (ivHas a n)) ∧ More W w' := by
  unfold ivHas
  cases h0 : ivRight a <;> cases h1 : decide (a.lo ≤ n) <;> cases h2 : decide (n ≤ a.hi)
  all_goals
    go_enter Tryz.func120, Tryz.ntmps120
    go_wp2_with (first | (go_at_call 85; (with_reducible refine (rright_c _ _).mono ?_); rintro e w' ⟨rfl, r, rfl⟩) | (go_at_call 85; (with_reducible refine (rright_c ⟨_, _, _⟩ _).mono ?_); rintro e w' ⟨rfl, r, rfl⟩))
    go_returns
    exact ⟨rfl, (by repeat (first | exact More.refl _ | refine More.alloc ?_ _ | refine More.more ?_ _ | refine More.drew ?_ | refine More.drewN ?_ _))⟩

set_option maxHeartbeats 4000000 in
theorem rsplit_c (a : Iv) (W : World) :
    Calls Tryz.prog 91 #[ivV a] W fun e w' => e = .returned (.tuple #[ivV (ivSplit a).1, ivV (ivSplit a).2]) ∧ More W w' := by
  unfold ivSplit
  by_cases h : ivRight a = true
  · rw [if_pos h]
    go_enter Tryz.func91, Tryz.ntmps91
    go_wp2_with (first | (go_at_call 45; (with_reducible refine (rof_c _ _ _).mono ?_); rintro e w' ⟨rfl, r, rfl⟩) | (go_at_call 73; (with_reducible refine (rnone_c _).mono ?_); rintro e w' ⟨rfl, r, rfl⟩) | (go_at_call 85; (with_reducible refine (rright_c _ _).mono ?_); rintro e w' ⟨rfl, r, rfl⟩) | (go_at_call 85; (with_reducible refine (rright_c ⟨_, _, _⟩ _).mono ?_); rintro e w' ⟨rfl, r, rfl⟩) | (go_at_call 89; (with_reducible refine (rmid_c _ _).mono ?_); rintro e w' ⟨rfl, r, rfl⟩) | (go_at_call 89; (with_reducible refine (rmid_c ⟨_, _, _⟩ _).mono ?_); rintro e w' ⟨rfl, r, rfl⟩) | ((with_reducible show Code.wp _ (Code.region 3 _ true) _ _ _); (with_reducible refine wp_more_tailq_m (id := 3) 10 ?_ ?_ ?_); kernel_rfl; kernel_rfl; (try simp only [List.take_succ_cons, List.take_zero, List.drop_succ_cons, List.drop_zero]); (repeat (any_goals (first | go_big_quiet_step ((first | (go_at_call 45; (with_reducible apply quiet_call); with_reducible exact rof_c _ _ _) | (go_at_call 89; (with_reducible apply quiet_call); with_reducible exact rmid_c _ _) | (go_at_call 89; (with_reducible apply quiet_call); with_reducible exact rmid_c ⟨_, _, _⟩ _))) | quiet_step ((first | (go_at_call 45; (with_reducible apply quiet_call); with_reducible exact rof_c _ _ _) | (go_at_call 89; (with_reducible apply quiet_call); with_reducible exact rmid_c _ _) | (go_at_call 89; (with_reducible apply quiet_call); with_reducible exact rmid_c ⟨_, _, _⟩ _)))))); (with_reducible refine wpQuiet_nil ?_); intro r) | ((with_reducible show Code.wp _ (Code.region 3 _ true) _ _ _); (with_reducible refine wp_more_tailq (id := 3) 10 ?_ ?_ ?_); kernel_rfl; kernel_rfl; (try simp only [List.take_succ_cons, List.take_zero, List.drop_succ_cons, List.drop_zero]); (repeat (any_goals (first | go_big_quiet_step ((first | (go_at_call 45; (with_reducible apply quiet_call); with_reducible exact rof_c _ _ _) | (go_at_call 89; (with_reducible apply quiet_call); with_reducible exact rmid_c _ _) | (go_at_call 89; (with_reducible apply quiet_call); with_reducible exact rmid_c ⟨_, _, _⟩ _))) | quiet_step ((first | (go_at_call 45; (with_reducible apply quiet_call); with_reducible exact rof_c _ _ _) | (go_at_call 89; (with_reducible apply quiet_call); with_reducible exact rmid_c _ _) | (go_at_call 89; (with_reducible apply quiet_call); with_reducible exact rmid_c ⟨_, _, _⟩ _)))))); (with_reducible refine wpQuiet_nil ?_); intro r))
    go_returns
    exact ⟨rfl, (by repeat (first | exact More.refl _ | refine More.alloc ?_ _ | refine More.more ?_ _ | refine More.drew ?_ | refine More.drewN ?_ _))⟩
  · rw [if_neg h]
    go_enter Tryz.func91, Tryz.ntmps91
    go_wp2_with (first | (go_at_call 45; (with_reducible refine (rof_c _ _ _).mono ?_); rintro e w' ⟨rfl, r, rfl⟩) | (go_at_call 73; (with_reducible refine (rnone_c _).mono ?_); rintro e w' ⟨rfl, r, rfl⟩) | (go_at_call 85; (with_reducible refine (rright_c _ _).mono ?_); rintro e w' ⟨rfl, r, rfl⟩) | (go_at_call 85; (with_reducible refine (rright_c ⟨_, _, _⟩ _).mono ?_); rintro e w' ⟨rfl, r, rfl⟩) | (go_at_call 89; (with_reducible refine (rmid_c _ _).mono ?_); rintro e w' ⟨rfl, r, rfl⟩) | (go_at_call 89; (with_reducible refine (rmid_c ⟨_, _, _⟩ _).mono ?_); rintro e w' ⟨rfl, r, rfl⟩) | ((with_reducible show Code.wp _ (Code.region 3 _ true) _ _ _); (with_reducible refine wp_more_tailq_m (id := 3) 10 ?_ ?_ ?_); kernel_rfl; kernel_rfl; (try simp only [List.take_succ_cons, List.take_zero, List.drop_succ_cons, List.drop_zero]); (repeat (any_goals (first | go_big_quiet_step ((first | (go_at_call 45; (with_reducible apply quiet_call); with_reducible exact rof_c _ _ _) | (go_at_call 89; (with_reducible apply quiet_call); with_reducible exact rmid_c _ _) | (go_at_call 89; (with_reducible apply quiet_call); with_reducible exact rmid_c ⟨_, _, _⟩ _))) | quiet_step ((first | (go_at_call 45; (with_reducible apply quiet_call); with_reducible exact rof_c _ _ _) | (go_at_call 89; (with_reducible apply quiet_call); with_reducible exact rmid_c _ _) | (go_at_call 89; (with_reducible apply quiet_call); with_reducible exact rmid_c ⟨_, _, _⟩ _)))))); (with_reducible refine wpQuiet_nil ?_); intro r) | ((with_reducible show Code.wp _ (Code.region 3 _ true) _ _ _); (with_reducible refine wp_more_tailq (id := 3) 10 ?_ ?_ ?_); kernel_rfl; kernel_rfl; (try simp only [List.take_succ_cons, List.take_zero, List.drop_succ_cons, List.drop_zero]); (repeat (any_goals (first | go_big_quiet_step ((first | (go_at_call 45; (with_reducible apply quiet_call); with_reducible exact rof_c _ _ _) | (go_at_call 89; (with_reducible apply quiet_call); with_reducible exact rmid_c _ _) | (go_at_call 89; (with_reducible apply quiet_call); with_reducible exact rmid_c ⟨_, _, _⟩ _))) | quiet_step ((first | (go_at_call 45; (with_reducible apply quiet_call); with_reducible exact rof_c _ _ _) | (go_at_call 89; (with_reducible apply quiet_call); with_reducible exact rmid_c _ _) | (go_at_call 89; (with_reducible apply quiet_call); with_reducible exact rmid_c ⟨_, _, _⟩ _)))))); (with_reducible refine wpQuiet_nil ?_); intro r))
    go_returns
    exact ⟨rfl, (by repeat (first | exact More.refl _ | refine More.alloc ?_ _ | refine More.more ?_ _ | refine More.drew ?_ | refine More.drewN ?_ _))⟩

set_option maxHeartbeats 4000000 in
theorem riroot_c (a : Iv) (W : World) :
    Calls Tryz.prog 74 #[ivV a] W fun e w' => e = .returned (ivV (ivRoot a)) ∧ More W w' := by
  rw [root_eq]
  by_cases h : ivRight a = true
  · by_cases h0 : a.lo < 0
    · simp only [h, h0]
      go_enter Tryz.func74, Tryz.ntmps74
      go_wp2_with (first | (go_at_call 45; (with_reducible refine (rof_c _ _ _).mono ?_); rintro e w' ⟨rfl, r, rfl⟩) | (go_at_call 73; (with_reducible refine (rnone_c _).mono ?_); rintro e w' ⟨rfl, r, rfl⟩) | (go_at_call 85; (with_reducible refine (rright_c _ _).mono ?_); rintro e w' ⟨rfl, r, rfl⟩) | (go_at_call 85; (with_reducible refine (rright_c ⟨_, _, _⟩ _).mono ?_); rintro e w' ⟨rfl, r, rfl⟩) | (go_at_call 110; (with_reducible refine (rroot_c _ _ _).mono ?_); rintro e w' ⟨rfl, rfl⟩))
      go_returns
      exact ⟨rfl, (by repeat (first | exact More.refl _ | refine More.alloc ?_ _ | refine More.more ?_ _ | refine More.drew ?_ | refine More.drewN ?_ _))⟩
    · simp only [h, h0]
      go_enter Tryz.func74, Tryz.ntmps74
      go_wp2_with (first | (go_at_call 45; (with_reducible refine (rof_c _ _ _).mono ?_); rintro e w' ⟨rfl, r, rfl⟩) | (go_at_call 73; (with_reducible refine (rnone_c _).mono ?_); rintro e w' ⟨rfl, r, rfl⟩) | (go_at_call 85; (with_reducible refine (rright_c _ _).mono ?_); rintro e w' ⟨rfl, r, rfl⟩) | (go_at_call 85; (with_reducible refine (rright_c ⟨_, _, _⟩ _).mono ?_); rintro e w' ⟨rfl, r, rfl⟩) | (go_at_call 110; (with_reducible refine (rroot_c _ _ _).mono ?_); rintro e w' ⟨rfl, rfl⟩))
      go_returns
      exact ⟨rfl, (by repeat (first | exact More.refl _ | refine More.alloc ?_ _ | refine More.more ?_ _ | refine More.drew ?_ | refine More.drewN ?_ _))⟩
  · simp only [h]
    go_enter Tryz.func74, Tryz.ntmps74
    go_wp2_with (first | (go_at_call 45; (with_reducible refine (rof_c _ _ _).mono ?_); rintro e w' ⟨rfl, r, rfl⟩) | (go_at_call 73; (with_reducible refine (rnone_c _).mono ?_); rintro e w' ⟨rfl, r, rfl⟩) | (go_at_call 85; (with_reducible refine (rright_c _ _).mono ?_); rintro e w' ⟨rfl, r, rfl⟩) | (go_at_call 85; (with_reducible refine (rright_c ⟨_, _, _⟩ _).mono ?_); rintro e w' ⟨rfl, r, rfl⟩) | (go_at_call 110; (with_reducible refine (rroot_c _ _ _).mono ?_); rintro e w' ⟨rfl, rfl⟩))
    go_returns
    exact ⟨rfl, (by repeat (first | exact More.refl _ | refine More.alloc ?_ _ | refine More.more ?_ _ | refine More.drew ?_ | refine More.drewN ?_ _))⟩

end Go.Proofs.YtggohceeeggnmaaGreat

namespace Go.Proofs.YtggohceeeggnmaaGreat
set_option linter.unusedVariables false
open Go.ChangeShapes Go.WideShapes Go.ChangeAt Go.RowKit

set_option maxHeartbeats 4000000 in
theorem within_c (n a b : Int) (W : World) :
    Calls Tryz.prog 76 #[.int .i64 n, .int .i64 a, .int .i64 b] W fun e w' => e = .returned (.int .i64 (within n a b)) ∧ W = w' := by
  go_enter Tryz.func76, Tryz.ntmps76
  go_wp2_with fail
  go_returns
  exact ⟨rfl, rfl⟩

set_option maxHeartbeats 4000000 in
theorem hwide_c (x w : Int) (h : -1152921504606846976 ≤ w) (h' : w ≤ 1152921504606846976) (W : World) :
    Calls Tryz.prog 32 #[.int .i64 x, .int .i64 w] W fun e w' => e = .returned (ivV (hWide x w)) ∧ More W w' := by
  have hb := within_bd x (-1073741824) 1073741824 (by omega)
  unfold hWide
  go_enter Tryz.func32, Tryz.ntmps32
  go_wp2_with (first | (go_at_call 76; (with_reducible refine (within_c _ _ _ _).mono ?_); rintro e w' ⟨rfl, rfl⟩) | (go_at_call 76; (with_reducible refine (within_c _ _ _ _).mono ?_); rintro e w' ⟨rfl, rfl⟩))
  go_returns
  exact ⟨rfl, (by repeat (first | exact More.refl _ | refine More.alloc ?_ _ | refine More.more ?_ _ | refine More.drew ?_ | refine More.drewN ?_ _))⟩

set_option maxHeartbeats 4000000 in
theorem hiv_c (n w : Int) (hn : -9223372036854775808 ≤ n) (hn' : n ≤ 9223372036854775807) (hw : -9223372036854775808 ≤ w) (hw' : w ≤ 9223372036854775807) (W : World) :
    Calls Tryz.prog 33 #[.int .i64 n, .int .i64 w] W fun e w' => e = .returned (ivV (hIv n w)) ∧ More W w' := by
  have d := tdiv_bd w 12 hw hw' (by omega)
  have p0 := Int.emod_nonneg w (show (12 : Int) ≠ 0 by omega)
  have p1 := Int.emod_lt_of_pos w (show (0 : Int) < 12 by omega)
  have q0 := Int.emod_nonneg (w.tdiv 12) (show (9000 : Int) ≠ 0 by omega)
  have q1 := Int.emod_lt_of_pos (w.tdiv 12) (show (0 : Int) < 9000 by omega)
  have e : ∃ y, y = hIv n w := ⟨_, rfl⟩
  obtain ⟨y, hy⟩ := e
  rw [← hy]
  unfold hIv at hy
  by_cases h0 : w % 12 = 0
  · rw [if_pos h0] at hy
    subst hy
    go_enter Tryz.func33, Tryz.ntmps33
    go_wp2_with (first | (go_at_call 30; (with_reducible refine (pick_c _ _ (by omega) (by omega) (by omega) (by omega) _).mono ?_); rintro e w' ⟨rfl, rfl⟩) | (go_at_call 32; (with_reducible refine (hwide_c _ _ (by omega) (by omega) _).mono ?_); rintro e w' ⟨rfl, r, rfl⟩) | (go_at_call 77; (with_reducible refine (hnum_c _ (by omega) (by omega) _).mono ?_); rintro e w' ⟨rfl, rfl⟩))
    go_returns
    exact ⟨rfl, (by repeat (first | exact More.refl _ | refine More.alloc ?_ _ | refine More.more ?_ _ | refine More.drew ?_ | refine More.drewN ?_ _))⟩
  · rw [if_neg h0] at hy
    by_cases h1 : w % 12 = 1
    · rw [if_pos h1] at hy
      subst hy
      by_cases h4 : w.tdiv 12 % 5 = 4
      · have h5 : (w.tdiv 12 % 5 == 4) = true := by rw [h4]; rfl
        rw [h5]
        go_enter Tryz.func33, Tryz.ntmps33
        go_wp2_with (first | (go_at_call 30; (with_reducible refine (pick_c _ _ (by omega) (by omega) (by omega) (by omega) _).mono ?_); rintro e w' ⟨rfl, rfl⟩) | (go_at_call 32; (with_reducible refine (hwide_c _ _ (by omega) (by omega) _).mono ?_); rintro e w' ⟨rfl, r, rfl⟩) | (go_at_call 77; (with_reducible refine (hnum_c _ (by omega) (by omega) _).mono ?_); rintro e w' ⟨rfl, rfl⟩))
        go_returns
        exact ⟨rfl, (by repeat (first | exact More.refl _ | refine More.alloc ?_ _ | refine More.more ?_ _ | refine More.drew ?_ | refine More.drewN ?_ _))⟩
      · have h5 : (w.tdiv 12 % 5 == 4) = false := by simpa using h4
        rw [h5]
        go_enter Tryz.func33, Tryz.ntmps33
        go_wp2_with (first | (go_at_call 30; (with_reducible refine (pick_c _ _ (by omega) (by omega) (by omega) (by omega) _).mono ?_); rintro e w' ⟨rfl, rfl⟩) | (go_at_call 32; (with_reducible refine (hwide_c _ _ (by omega) (by omega) _).mono ?_); rintro e w' ⟨rfl, r, rfl⟩) | (go_at_call 77; (with_reducible refine (hnum_c _ (by omega) (by omega) _).mono ?_); rintro e w' ⟨rfl, rfl⟩))
        go_returns
        exact ⟨rfl, (by repeat (first | exact More.refl _ | refine More.alloc ?_ _ | refine More.more ?_ _ | refine More.drew ?_ | refine More.drewN ?_ _))⟩
    · rw [if_neg h1] at hy
      by_cases h2 : w % 12 = 2 ∨ w % 12 = 3
      · rw [if_pos h2] at hy
        subst hy
        rcases h2 with h2 | h2
        · skip
          go_enter Tryz.func33, Tryz.ntmps33
          go_wp2_with (first | (go_at_call 30; (with_reducible refine (pick_c _ _ (by omega) (by omega) (by omega) (by omega) _).mono ?_); rintro e w' ⟨rfl, rfl⟩) | (go_at_call 32; (with_reducible refine (hwide_c _ _ (by omega) (by omega) _).mono ?_); rintro e w' ⟨rfl, r, rfl⟩) | (go_at_call 77; (with_reducible refine (hnum_c _ (by omega) (by omega) _).mono ?_); rintro e w' ⟨rfl, rfl⟩))
          go_returns
          exact ⟨rfl, (by repeat (first | exact More.refl _ | refine More.alloc ?_ _ | refine More.more ?_ _ | refine More.drew ?_ | refine More.drewN ?_ _))⟩
        · skip
          go_enter Tryz.func33, Tryz.ntmps33
          go_wp2_with (first | (go_at_call 30; (with_reducible refine (pick_c _ _ (by omega) (by omega) (by omega) (by omega) _).mono ?_); rintro e w' ⟨rfl, rfl⟩) | (go_at_call 32; (with_reducible refine (hwide_c _ _ (by omega) (by omega) _).mono ?_); rintro e w' ⟨rfl, r, rfl⟩) | (go_at_call 77; (with_reducible refine (hnum_c _ (by omega) (by omega) _).mono ?_); rintro e w' ⟨rfl, rfl⟩))
          go_returns
          exact ⟨rfl, (by repeat (first | exact More.refl _ | refine More.alloc ?_ _ | refine More.more ?_ _ | refine More.drew ?_ | refine More.drewN ?_ _))⟩
      · rw [if_neg h2] at hy
        subst hy
        have h3 : ¬ w % 12 = 2 := fun h => h2 (.inl h)
        have h4 : ¬ w % 12 = 3 := fun h => h2 (.inr h)
        clear h2
        go_enter Tryz.func33, Tryz.ntmps33
        go_wp2_with (first | (go_at_call 30; (with_reducible refine (pick_c _ _ (by omega) (by omega) (by omega) (by omega) _).mono ?_); rintro e w' ⟨rfl, rfl⟩) | (go_at_call 32; (with_reducible refine (hwide_c _ _ (by omega) (by omega) _).mono ?_); rintro e w' ⟨rfl, r, rfl⟩) | (go_at_call 77; (with_reducible refine (hnum_c _ (by omega) (by omega) _).mono ?_); rintro e w' ⟨rfl, rfl⟩))
        go_returns
        exact ⟨rfl, (by repeat (first | exact More.refl _ | refine More.alloc ?_ _ | refine More.more ?_ _ | refine More.drew ?_ | refine More.drewN ?_ _))⟩

end Go.Proofs.YtggohceeeggnmaaGreat
