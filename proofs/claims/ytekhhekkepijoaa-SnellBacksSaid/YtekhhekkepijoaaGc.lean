/-
  The contracts of package num, and of the plain saying of chapter 1.
  The contracts of package iv: each call answers what the plain interval of the same name is, and makes no more than memory of its own.
  Slices of intervals: which intervals a slice's cells hold in a world; sums of powers and slopes, in plain numbers.
  A slice of numbers among the arguments; a row that the call itself makes and appends to, told apart from others.
  Whole numbers as floating-point numbers of 64 bits, in which they are exact: what a word of a whole number reads, what sums, products, comparisons of such give.
  Words of whole numbers with a 0 of either sign; what a number is that is its own whole part; operations on complex numbers of such parts, as the walk meets them.
  The contracts of the numbers that are handed in: any number as a number of steps.
  The calls of package gauss, at whole numbers and at those that are none.
  The contracts of what the statements of chapter 1 lean on: the plain saying of the chapter, and the numbers that are handed in.
  The contracts of the plain saying of chapter 2: each call answers what the plain interval of the same name is.
  The contracts of the intervals that are handed in, of raw numbers.
-/
import Derived.Test.YtekhhekkepijoaaRows
import Derived.Test.YtekhhekkepijoaaGa
import Derived.WalkKit
import Derived.ProofKit
import Derived.OpenShut
import Derived.Outline
import Derived.Lib.Hide
import Derived.Test.YtekhhekkepijoaaGb
import Derived.ArgAppend
import Derived.Carry
import Derived.Laws.FloatArith
import Derived.Laws.ComplexArith
import Derived.Laws.Cover2
import Derived.Laws.Cover3
import Derived.Laws.Externs
import Derived.WalkLawsBesides

namespace Go.Proofs.Ytekhhekkepijoaa
set_option linter.unusedVariables false
open Go.ChangeShapes Go.WideShapes Go.ChangeAt Go.RowKit

theorem ret_int {k : IntKind} {a b : Int} (h : a = b) : Ending.returned (.int k a) = .returned (.int k b) := by rw [h]

set_option maxHeartbeats 4000000 in
theorem floor_c (a b : Int) (ha : -9223372036854775808 ≤ a) (ha' : a ≤ 9223372036854775807) (hn : ¬ (a = -9223372036854775808 ∧ b = -1)) (W : World) :
    Calls Try.prog 77 #[.int .i64 a, .int .i64 b] W fun e w' => e = .returned (.int .i64 (a.fdiv b)) ∧ W = w' := by
  have hb := tdiv_bd a b ha ha' hn
  clear hn
  by_cases h0 : b = 0
  · subst h0
    go_enter Try.func77, Try.ntmps77
    go_wp2_with fail
    go_ret
    exact ⟨ret_int (by simp), rfl⟩
  · have hf := fdiv_of a b h0
    by_cases hr : a.tmod b = 0
    · rw [if_neg (by simp [hr])] at hf
      rw [hf]
      clear hf
      go_enter Try.func77, Try.ntmps77
      go_wp2_with fail
      go_ret
      exact ⟨rfl, rfl⟩
    · have hb2 := tdiv_bd2 a b ha ha' hr
      have hr2 : 0 ≤ a → ¬ a % b = 0 := fun h => by rw [← Int.tmod_eq_emod_of_nonneg h]; exact hr
      by_cases h1 : a < 0 <;> by_cases h2 : b < 0
      all_goals
        first
        | (rw [if_neg (fun h => h.2 (by omega))] at hf)
        | (rw [if_pos ⟨hr, by omega⟩] at hf)
        rw [hf]
        clear hf
        first
        | (have hr3 := hr2 (by omega); clear hr2)
        | clear hr2
        go_enter Try.func77, Try.ntmps77
        go_wp2_with fail
        go_ret
        exact ⟨rfl, rfl⟩

set_option maxHeartbeats 4000000 in
theorem in_c (n : Int) (W : World) :
    Calls Try.prog 41 #[.int .i64 n] W fun e w' => e = .returned (.bool (isIn n)) ∧ W = w' := by
  by_cases h1 : -1073741824 ≤ n <;> by_cases h2 : n ≤ 1073741824
  all_goals
    go_enter Try.func41, Try.ntmps41
    go_wp2_with fail
    go_ret
    exact ⟨by simp [isIn, h1, h2], rfl⟩

set_option maxHeartbeats 4000000 in
theorem number_c (n : Int) (W : World) :
    Calls Try.prog 66 #[.int .i64 n] W fun e w' => e = .returned (.tuple #[.int .i64 (told n).1, .bool (told n).2]) ∧ W = w' := by
  by_cases h1 : isIn n = true
  all_goals
    go_enter Try.func66, Try.ntmps66
    go_wp2_with (first | (go_at_call 41; (with_reducible refine (in_c _ _).mono ?_); rintro e w' ⟨rfl, rfl⟩))
    go_ret2
    exact ⟨by simp [told, h1], rfl⟩


set_option maxHeartbeats 4000000 in
theorem quotient_c (a b : Int) (up : Bool) (ha : -4611686018427387904 ≤ a) (ha' : a ≤ 4611686018427387904) (W : World) :
    Calls Try.prog 67 #[.int .i64 a, .int .i64 b, .bool up] W fun e w' => e = .returned (.int .i64 (quo a b up)) ∧ W = w' := by
  have hq : -4611686018427387904 ≤ (-a).fdiv b ∧ (-a).fdiv b ≤ 4611686018427387904 := by have := fdiv_abs (-a) b; omega
  cases up
  all_goals
    go_enter Try.func67, Try.ntmps67
    go_wp2_with (first | (go_at_call 77; (with_reducible refine (floor_c _ _ (by omega) (by omega) (by omega) _).mono ?_); rintro e w' ⟨rfl, rfl⟩))
    go_ret
    exact ⟨ret_int (by simp [quo]), rfl⟩

set_option maxHeartbeats 4000000 in
theorem div_c (a b : Int) (up : Bool) (W : World) :
    Calls Try.prog 40 #[.int .i64 a, .int .i64 b, .bool up] W fun e w' => e = .returned (.tuple #[.int .i64 (divN a b up).1, .bool (divN a b up).2]) ∧ W = w' := by
  by_cases ha : isIn a = true <;> by_cases hb : isIn b = true <;> by_cases h0 : (b == 0) = true
  case neg =>
    have h1 := isIn_iff.1 ha
    have e : divN a b up = told (quo (a * 65536) b up) := by simp only [divN, ha, hb, h0]; rfl
    rw [e]
    clear e
    go_enter Try.func40, Try.ntmps40
    go_wp2_with (first | (go_at_call 41; (with_reducible refine (in_c _ _).mono ?_); rintro e w' ⟨rfl, rfl⟩) | (go_at_call 66; (with_reducible refine (number_c _ _).mono ?_); rintro e w' ⟨rfl, rfl⟩) | (go_at_call 67; (with_reducible refine (quotient_c _ _ _ (by omega) (by omega) _).mono ?_); rintro e w' ⟨rfl, rfl⟩))
    go_ret2
    exact ⟨rfl, rfl⟩
  all_goals
    have e : divN a b up = (0, false) := by simp only [divN, ha, hb, h0]; rfl
    rw [e]
    clear e
    go_enter Try.func40, Try.ntmps40
    go_wp2_with (first | (go_at_call 41; (with_reducible refine (in_c _ _).mono ?_); rintro e w' ⟨rfl, rfl⟩) | (go_at_call 66; (with_reducible refine (number_c _ _).mono ?_); rintro e w' ⟨rfl, rfl⟩) | (go_at_call 67; (with_reducible refine (quotient_c _ _ _ (by omega) (by omega) _).mono ?_); rintro e w' ⟨rfl, rfl⟩))
    go_ret2
    exact ⟨rfl, rfl⟩

set_option maxHeartbeats 4000000 in
theorem floorRoot_c (n : Int) (h0 : 0 ≤ n) (W : World) :
    Calls Try.prog 83 #[.int .i64 n] W fun e w' => e = .returned (.int .i64 (flRoot n)) ∧ W = w' := by
  go_enter Try.func83, Try.ntmps83
  go_wp2_with fail
  go_loop [3, 4] (fun r b => ∃ (k : Nat) (x : Int), k ≤ 24 ∧ b = .int .i64 (bitv k) ∧ r = .int .i64 x ∧ 0 ≤ x ∧ x + 2 * bitv k ≤ 16777216 ∧ rootGo n k x = flRoot n) (fun _ b => (intOf b).toNat)
  case atStart => exact ⟨24, 0, by omega, rfl, rfl, by omega, by decide, rfl⟩
  case round =>
    obtain ⟨k, x, hk, rfl, rfl, hx, hx2, hg⟩ := hrel
    cases k with
    | zero =>
      have hb : bitv 0 = 0 := rfl
      rw [hb]
      go_wp2
      go_ret
      exact ⟨ret_int hg, rfl⟩
    | succ k =>
      have b1 := bitv_pos k
      have b2 := bitv_le k (by omega)
      have b3 := bitv_half k
      have b4 := mul_bd (a := x + bitv (k + 1)) (b := x + bitv (k + 1)) (A := 16777216) (B := 16777216) (by omega) (by omega)
      rw [rootGo_succ] at hg
      generalize bitv (k + 1) = c at *
      have HB := Lib.hid b3
      clear b3
      have HG := Lib.hid hg
      clear hg
      by_cases hc : (x + c) * (x + c) ≤ n
      · go_wp2
        go_round
        case rel => 
          exact ⟨k, x + c, by omega, by rw [← HB.out], rfl, by omega, by have := HB.out; omega, by have := HG.out; rw [if_pos hc] at this; exact this⟩
        case measure => simp [intOf]; omega
      · go_wp2
        go_round
        case rel => exact ⟨k, x, by omega, by rw [← HB.out], rfl, by omega, by have := HB.out; omega, by have := HG.out; rw [if_neg hc] at this; exact this⟩
        case measure => simp [intOf]; omega


set_option maxHeartbeats 4000000 in
theorem root_c (a : Int) (up : Bool) (W : World) :
    Calls Try.prog 78 #[.int .i64 a, .bool up] W fun e w' => e = .returned (.tuple #[.int .i64 (rootN a up).1, .bool (rootN a up).2]) ∧ W = w' := by
  by_cases ha : isIn a = true <;> by_cases h0 : a < 0
  case neg =>
    have h1 := isIn_iff.1 ha
    have ⟨b1, b2⟩ := in_root ha h0
    have b3 := mul_bd (a := flRoot (a * 65536)) (b := flRoot (a * 65536)) (A := 8388608) (B := 8388608) (by omega) (by omega)
    have b4 := flRoot_bd (a * 65536) (by omega) (by omega)
    have e : rootN a up = told (upRoot (a * 65536) up) := by simp [rootN, ha, h0]
    rw [e]
    clear e
    cases up
    · have e : upRoot (a * 65536) false = flRoot (a * 65536) := by simp [upRoot]
      rw [e]
      clear e
      go_enter Try.func78, Try.ntmps78
      go_wp2_with (first | (go_at_call 41; (with_reducible refine (in_c _ _).mono ?_); rintro e w' ⟨rfl, rfl⟩) | (go_at_call 66; (with_reducible refine (number_c _ _).mono ?_); rintro e w' ⟨rfl, rfl⟩) | (go_at_call 83; (with_reducible refine (floorRoot_c _ (by omega) _).mono ?_); rintro e w' ⟨rfl, rfl⟩))
      go_ret2
      exact ⟨rfl, rfl⟩
    · by_cases hr : flRoot (a * 65536) * flRoot (a * 65536) < a * 65536
      · have e : upRoot (a * 65536) true = flRoot (a * 65536) + 1 := by
          rw [upRoot, if_pos]; simp; omega
        rw [e]
        clear e
        go_enter Try.func78, Try.ntmps78
        go_wp2_with (first | (go_at_call 41; (with_reducible refine (in_c _ _).mono ?_); rintro e w' ⟨rfl, rfl⟩) | (go_at_call 66; (with_reducible refine (number_c _ _).mono ?_); rintro e w' ⟨rfl, rfl⟩) | (go_at_call 83; (with_reducible refine (floorRoot_c _ (by omega) _).mono ?_); rintro e w' ⟨rfl, rfl⟩))
        go_ret2
        exact ⟨rfl, rfl⟩
      · have e : upRoot (a * 65536) true = flRoot (a * 65536) := by
          rw [upRoot, if_neg]; simp; omega
        rw [e]
        clear e
        go_enter Try.func78, Try.ntmps78
        go_wp2_with (first | (go_at_call 41; (with_reducible refine (in_c _ _).mono ?_); rintro e w' ⟨rfl, rfl⟩) | (go_at_call 66; (with_reducible refine (number_c _ _).mono ?_); rintro e w' ⟨rfl, rfl⟩) | (go_at_call 83; (with_reducible refine (floorRoot_c _ (by omega) _).mono ?_); rintro e w' ⟨rfl, rfl⟩))
        go_ret2
        exact ⟨rfl, rfl⟩
  all_goals
    have e : rootN a up = (0, false) := by simp [rootN, ha, h0]
    rw [e]
    clear e
    go_enter Try.func78, Try.ntmps78
    go_wp2_with (first | (go_at_call 41; (with_reducible refine (in_c _ _).mono ?_); rintro e w' ⟨rfl, rfl⟩) | (go_at_call 66; (with_reducible refine (number_c _ _).mono ?_); rintro e w' ⟨rfl, rfl⟩) | (go_at_call 83; (with_reducible refine (floorRoot_c _ (by omega) _).mono ?_); rintro e w' ⟨rfl, rfl⟩))
    go_ret2
    exact ⟨rfl, rfl⟩

end Go.Proofs.Ytekhhekkepijoaa

namespace Go.Proofs.Ytekhhekkepijoaa
set_option linter.unusedVariables false
open Go.ChangeShapes Go.WideShapes Go.ChangeAt Go.RowKit

/-- A field of an interval by value. -/
@[go_sem] theorem run_iv_lo (a : Iv) (w : World) : (Instr.field 23 (ivV a) 0).run Try.prog w = .ok (.int .i64 a.lo) w := by kernel_rfl
@[go_sem] theorem run_iv_hi (a : Iv) (w : World) : (Instr.field 23 (ivV a) 1).run Try.prog w = .ok (.int .i64 a.hi) w := by kernel_rfl
@[go_sem] theorem run_iv_no (a : Iv) (w : World) : (Instr.field 23 (ivV a) 2).run Try.prog w = .ok (.bool a.no) w := by kernel_rfl

set_option maxHeartbeats 4000000 in
theorem right_c (a : Iv) (W : World) :
    Calls Try.prog 30 #[ivV a] W fun e w' => e = .returned (.bool (ivRight a)) ∧ More W w' := by
  unfold ivRight
  cases h0 : a.no <;> cases h1 : isIn a.lo <;> cases h2 : isIn a.hi <;> cases h3 : decide (a.lo ≤ a.hi)
  all_goals
    go_enter Try.func30, Try.ntmps30
    go_wp2_with (first | (go_at_call 41; (with_reducible refine (in_c _ _).mono ?_); rintro e w' ⟨rfl, rfl⟩))
    go_returns
    exact ⟨rfl, (by repeat (first | exact More.refl _ | refine More.alloc ?_ _ | refine More.more ?_ _ | refine More.drew ?_ | refine More.drewN ?_ _))⟩

set_option maxHeartbeats 4000000 in
theorem none_c  (W : World) :
    Calls Try.prog 15 #[] W fun e w' => e = .returned (ivV ivNone) ∧ More W w' := by
  go_enter Try.func15, Try.ntmps15
  go_wp2_with fail
  go_returns
  exact ⟨rfl, (by repeat (first | exact More.refl _ | refine More.alloc ?_ _ | refine More.more ?_ _ | refine More.drew ?_ | refine More.drewN ?_ _))⟩

set_option maxHeartbeats 4000000 in
theorem of_c (a b : Int) (W : World) :
    Calls Try.prog 9 #[.int .i64 a, .int .i64 b] W fun e w' => e = .returned (ivV (ivOf a b)) ∧ More W w' := by
  unfold ivOf
  by_cases h : ivRight ⟨a, b, false⟩ = true
  · rw [if_pos h]
    go_enter Try.func9, Try.ntmps9
    go_wp2_with (first | (go_at_call 15; (with_reducible refine (none_c _).mono ?_); rintro e w' ⟨rfl, r, rfl⟩) | (go_at_call 30; (with_reducible refine (right_c _ _).mono ?_); rintro e w' ⟨rfl, r, rfl⟩) | (go_at_call 30; (with_reducible refine (right_c ⟨_, _, _⟩ _).mono ?_); rintro e w' ⟨rfl, r, rfl⟩))
    go_returns
    exact ⟨rfl, (by repeat (first | exact More.refl _ | refine More.alloc ?_ _ | refine More.more ?_ _ | refine More.drew ?_ | refine More.drewN ?_ _))⟩
  · rw [if_neg h]
    go_enter Try.func9, Try.ntmps9
    go_wp2_with (first | (go_at_call 15; (with_reducible refine (none_c _).mono ?_); rintro e w' ⟨rfl, r, rfl⟩) | (go_at_call 30; (with_reducible refine (right_c _ _).mono ?_); rintro e w' ⟨rfl, r, rfl⟩) | (go_at_call 30; (with_reducible refine (right_c ⟨_, _, _⟩ _).mono ?_); rintro e w' ⟨rfl, r, rfl⟩))
    go_returns
    exact ⟨rfl, (by repeat (first | exact More.refl _ | refine More.alloc ?_ _ | refine More.more ?_ _ | refine More.drew ?_ | refine More.drewN ?_ _))⟩

set_option maxHeartbeats 4000000 in
theorem point_c (n : Int) (W : World) :
    Calls Try.prog 10 #[.int .i64 n] W fun e w' => e = .returned (ivV (ivPoint n)) ∧ More W w' := by
  go_enter Try.func10, Try.ntmps10
  go_wp2_with (first | (go_at_call 9; (with_reducible refine (of_c _ _ _).mono ?_); rintro e w' ⟨rfl, r, rfl⟩))
  go_returns
  exact ⟨rfl, (by repeat (first | exact More.refl _ | refine More.alloc ?_ _ | refine More.more ?_ _ | refine More.drew ?_ | refine More.drewN ?_ _))⟩

set_option maxHeartbeats 4000000 in
theorem whole_c (n : Int) (W : World) :
    Calls Try.prog 14 #[.int .i64 n] W fun e w' => e = .returned (ivV (ivWhole n)) ∧ More W w' := by
  unfold ivWhole
  by_cases h : isIn n = true
  · rw [if_pos h]
    have hb := isIn_iff.1 h
    go_enter Try.func14, Try.ntmps14
    go_wp2_with (first | (go_at_call 10; (with_reducible refine (point_c _ _).mono ?_); rintro e w' ⟨rfl, r, rfl⟩) | (go_at_call 15; (with_reducible refine (none_c _).mono ?_); rintro e w' ⟨rfl, r, rfl⟩) | (go_at_call 41; (with_reducible refine (in_c _ _).mono ?_); rintro e w' ⟨rfl, rfl⟩))
    go_returns
    exact ⟨rfl, (by repeat (first | exact More.refl _ | refine More.alloc ?_ _ | refine More.more ?_ _ | refine More.drew ?_ | refine More.drewN ?_ _))⟩
  · rw [if_neg h]
    go_enter Try.func14, Try.ntmps14
    go_wp2_with (first | (go_at_call 10; (with_reducible refine (point_c _ _).mono ?_); rintro e w' ⟨rfl, r, rfl⟩) | (go_at_call 15; (with_reducible refine (none_c _).mono ?_); rintro e w' ⟨rfl, r, rfl⟩) | (go_at_call 41; (with_reducible refine (in_c _ _).mono ?_); rintro e w' ⟨rfl, rfl⟩))
    go_returns
    exact ⟨rfl, (by repeat (first | exact More.refl _ | refine More.alloc ?_ _ | refine More.more ?_ _ | refine More.drew ?_ | refine More.drewN ?_ _))⟩

set_option maxHeartbeats 4000000 in
theorem both_c (a b : Iv) (W : World) :
    Calls Try.prog 39 #[ivV a, ivV b] W fun e w' => e = .returned (.bool (ivBoth a b)) ∧ More W w' := by
  unfold ivBoth
  cases h0 : ivRight a <;> cases h1 : ivRight b
  all_goals
    go_enter Try.func39, Try.ntmps39
    go_wp2_with (first | (go_at_call 30; (with_reducible refine (right_c _ _).mono ?_); rintro e w' ⟨rfl, r, rfl⟩) | (go_at_call 30; (with_reducible refine (right_c ⟨_, _, _⟩ _).mono ?_); rintro e w' ⟨rfl, r, rfl⟩))
    go_returns
    exact ⟨rfl, (by repeat (first | exact More.refl _ | refine More.alloc ?_ _ | refine More.more ?_ _ | refine More.drew ?_ | refine More.drewN ?_ _))⟩

set_option maxHeartbeats 4000000 in
theorem neg_c (a : Iv) (W : World) :
    Calls Try.prog 57 #[ivV a] W fun e w' => e = .returned (ivV (ivNeg a)) ∧ More W w' := by
  unfold ivNeg
  by_cases h : ivRight a = true
  · rw [if_pos h]
    obtain ⟨⟨b1, b2⟩, ⟨b3, b4⟩, b5⟩ := right_bd h
    go_enter Try.func57, Try.ntmps57
    go_wp2_with (first | (go_at_call 9; (with_reducible refine (of_c _ _ _).mono ?_); rintro e w' ⟨rfl, r, rfl⟩) | (go_at_call 15; (with_reducible refine (none_c _).mono ?_); rintro e w' ⟨rfl, r, rfl⟩) | (go_at_call 30; (with_reducible refine (right_c _ _).mono ?_); rintro e w' ⟨rfl, r, rfl⟩) | (go_at_call 30; (with_reducible refine (right_c ⟨_, _, _⟩ _).mono ?_); rintro e w' ⟨rfl, r, rfl⟩))
    go_returns
    exact ⟨rfl, (by repeat (first | exact More.refl _ | refine More.alloc ?_ _ | refine More.more ?_ _ | refine More.drew ?_ | refine More.drewN ?_ _))⟩
  · rw [if_neg h]
    go_enter Try.func57, Try.ntmps57
    go_wp2_with (first | (go_at_call 9; (with_reducible refine (of_c _ _ _).mono ?_); rintro e w' ⟨rfl, r, rfl⟩) | (go_at_call 15; (with_reducible refine (none_c _).mono ?_); rintro e w' ⟨rfl, r, rfl⟩) | (go_at_call 30; (with_reducible refine (right_c _ _).mono ?_); rintro e w' ⟨rfl, r, rfl⟩) | (go_at_call 30; (with_reducible refine (right_c ⟨_, _, _⟩ _).mono ?_); rintro e w' ⟨rfl, r, rfl⟩))
    go_returns
    exact ⟨rfl, (by repeat (first | exact More.refl _ | refine More.alloc ?_ _ | refine More.more ?_ _ | refine More.drew ?_ | refine More.drewN ?_ _))⟩

set_option maxHeartbeats 4000000 in
theorem add_c (a b : Iv) (W : World) :
    Calls Try.prog 76 #[ivV a, ivV b] W fun e w' => e = .returned (ivV (ivAdd a b)) ∧ More W w' := by
  unfold ivAdd
  by_cases h : ivBoth a b = true
  · rw [if_pos h]
    obtain ⟨⟨⟨b1, b2⟩, ⟨b3, b4⟩, b5⟩, ⟨c1, c2⟩, ⟨c3, c4⟩, c5⟩ := both_bd h
    go_enter Try.func76, Try.ntmps76
    go_wp2_with (first | (go_at_call 9; (with_reducible refine (of_c _ _ _).mono ?_); rintro e w' ⟨rfl, r, rfl⟩) | (go_at_call 15; (with_reducible refine (none_c _).mono ?_); rintro e w' ⟨rfl, r, rfl⟩) | (go_at_call 39; (with_reducible refine (both_c _ _ _).mono ?_); rintro e w' ⟨rfl, r, rfl⟩) | (go_at_call 39; (with_reducible refine (both_c _ ⟨_, _, _⟩ _).mono ?_); rintro e w' ⟨rfl, r, rfl⟩) | (go_at_call 39; (with_reducible refine (both_c ⟨_, _, _⟩ _ _).mono ?_); rintro e w' ⟨rfl, r, rfl⟩) | (go_at_call 39; (with_reducible refine (both_c ⟨_, _, _⟩ ⟨_, _, _⟩ _).mono ?_); rintro e w' ⟨rfl, r, rfl⟩))
    go_returns
    exact ⟨rfl, (by repeat (first | exact More.refl _ | refine More.alloc ?_ _ | refine More.more ?_ _ | refine More.drew ?_ | refine More.drewN ?_ _))⟩
  · rw [if_neg h]
    go_enter Try.func76, Try.ntmps76
    go_wp2_with (first | (go_at_call 9; (with_reducible refine (of_c _ _ _).mono ?_); rintro e w' ⟨rfl, r, rfl⟩) | (go_at_call 15; (with_reducible refine (none_c _).mono ?_); rintro e w' ⟨rfl, r, rfl⟩) | (go_at_call 39; (with_reducible refine (both_c _ _ _).mono ?_); rintro e w' ⟨rfl, r, rfl⟩) | (go_at_call 39; (with_reducible refine (both_c _ ⟨_, _, _⟩ _).mono ?_); rintro e w' ⟨rfl, r, rfl⟩) | (go_at_call 39; (with_reducible refine (both_c ⟨_, _, _⟩ _ _).mono ?_); rintro e w' ⟨rfl, r, rfl⟩) | (go_at_call 39; (with_reducible refine (both_c ⟨_, _, _⟩ ⟨_, _, _⟩ _).mono ?_); rintro e w' ⟨rfl, r, rfl⟩))
    go_returns
    exact ⟨rfl, (by repeat (first | exact More.refl _ | refine More.alloc ?_ _ | refine More.more ?_ _ | refine More.drew ?_ | refine More.drewN ?_ _))⟩

set_option maxHeartbeats 4000000 in
theorem sub_c (a b : Iv) (W : World) :
    Calls Try.prog 61 #[ivV a, ivV b] W fun e w' => e = .returned (ivV (ivSub a b)) ∧ More W w' := by
  go_enter Try.func61, Try.ntmps61
  go_wp2_with (first | (go_at_call 57; (with_reducible refine (neg_c _ _).mono ?_); rintro e w' ⟨rfl, r, rfl⟩) | (go_at_call 57; (with_reducible refine (neg_c ⟨_, _, _⟩ _).mono ?_); rintro e w' ⟨rfl, r, rfl⟩) | (go_at_call 76; (with_reducible refine (add_c _ _ _).mono ?_); rintro e w' ⟨rfl, r, rfl⟩) | (go_at_call 76; (with_reducible refine (add_c _ ⟨_, _, _⟩ _).mono ?_); rintro e w' ⟨rfl, r, rfl⟩) | (go_at_call 76; (with_reducible refine (add_c ⟨_, _, _⟩ _ _).mono ?_); rintro e w' ⟨rfl, r, rfl⟩) | (go_at_call 76; (with_reducible refine (add_c ⟨_, _, _⟩ ⟨_, _, _⟩ _).mono ?_); rintro e w' ⟨rfl, r, rfl⟩) | ((with_reducible show Code.wp _ (Code.region 1 _ true) _ _ _); (with_reducible refine wp_more_tailq_m (id := 1) 4 ?_ ?_ ?_); kernel_rfl; kernel_rfl; (try simp only [List.take_succ_cons, List.take_zero, List.drop_succ_cons, List.drop_zero]); (repeat (any_goals (first | go_big_quiet_step ((first | (go_at_call 57; (with_reducible apply quiet_call); with_reducible exact neg_c _ _) | (go_at_call 57; (with_reducible apply quiet_call); with_reducible exact neg_c ⟨_, _, _⟩ _) | (go_at_call 76; (with_reducible apply quiet_call); with_reducible exact add_c _ _ _) | (go_at_call 76; (with_reducible apply quiet_call); with_reducible exact add_c _ ⟨_, _, _⟩ _) | (go_at_call 76; (with_reducible apply quiet_call); with_reducible exact add_c ⟨_, _, _⟩ _ _) | (go_at_call 76; (with_reducible apply quiet_call); with_reducible exact add_c ⟨_, _, _⟩ ⟨_, _, _⟩ _))) | quiet_step ((first | (go_at_call 57; (with_reducible apply quiet_call); with_reducible exact neg_c _ _) | (go_at_call 57; (with_reducible apply quiet_call); with_reducible exact neg_c ⟨_, _, _⟩ _) | (go_at_call 76; (with_reducible apply quiet_call); with_reducible exact add_c _ _ _) | (go_at_call 76; (with_reducible apply quiet_call); with_reducible exact add_c _ ⟨_, _, _⟩ _) | (go_at_call 76; (with_reducible apply quiet_call); with_reducible exact add_c ⟨_, _, _⟩ _ _) | (go_at_call 76; (with_reducible apply quiet_call); with_reducible exact add_c ⟨_, _, _⟩ ⟨_, _, _⟩ _)))))); (with_reducible refine wpQuiet_nil ?_); intro r) | ((with_reducible show Code.wp _ (Code.region 1 _ true) _ _ _); (with_reducible refine wp_more_tailq (id := 1) 4 ?_ ?_ ?_); kernel_rfl; kernel_rfl; (try simp only [List.take_succ_cons, List.take_zero, List.drop_succ_cons, List.drop_zero]); (repeat (any_goals (first | go_big_quiet_step ((first | (go_at_call 57; (with_reducible apply quiet_call); with_reducible exact neg_c _ _) | (go_at_call 57; (with_reducible apply quiet_call); with_reducible exact neg_c ⟨_, _, _⟩ _) | (go_at_call 76; (with_reducible apply quiet_call); with_reducible exact add_c _ _ _) | (go_at_call 76; (with_reducible apply quiet_call); with_reducible exact add_c _ ⟨_, _, _⟩ _) | (go_at_call 76; (with_reducible apply quiet_call); with_reducible exact add_c ⟨_, _, _⟩ _ _) | (go_at_call 76; (with_reducible apply quiet_call); with_reducible exact add_c ⟨_, _, _⟩ ⟨_, _, _⟩ _))) | quiet_step ((first | (go_at_call 57; (with_reducible apply quiet_call); with_reducible exact neg_c _ _) | (go_at_call 57; (with_reducible apply quiet_call); with_reducible exact neg_c ⟨_, _, _⟩ _) | (go_at_call 76; (with_reducible apply quiet_call); with_reducible exact add_c _ _ _) | (go_at_call 76; (with_reducible apply quiet_call); with_reducible exact add_c _ ⟨_, _, _⟩ _) | (go_at_call 76; (with_reducible apply quiet_call); with_reducible exact add_c ⟨_, _, _⟩ _ _) | (go_at_call 76; (with_reducible apply quiet_call); with_reducible exact add_c ⟨_, _, _⟩ ⟨_, _, _⟩ _)))))); (with_reducible refine wpQuiet_nil ?_); intro r))
  go_returns
  exact ⟨rfl, (by repeat (first | exact More.refl _ | refine More.alloc ?_ _ | refine More.more ?_ _ | refine More.drew ?_ | refine More.drewN ?_ _))⟩

set_option maxHeartbeats 4000000 in
theorem out_c (lo hi : Int) (h0 : -1152921504606846976 ≤ lo ∧ lo ≤ 1152921504606846976) (h1 : -1152921504606846976 ≤ hi ∧ hi ≤ 1152921504606846976) (W : World) :
    Calls Try.prog 60 #[.int .i64 lo, .int .i64 hi] W fun e w' => e = .returned (ivV (ivOut lo hi)) ∧ More W w' := by
  have e1 := fdiv_abs (-hi) 65536
  have e2 : -1152921504606846976 ≤ (-hi).fdiv 65536 ∧ (-hi).fdiv 65536 ≤ 1152921504606846976 := by omega
  clear e1
  go_enter Try.func60, Try.ntmps60
  go_wp2_with (first | (go_at_call 9; (with_reducible refine (of_c _ _ _).mono ?_); rintro e w' ⟨rfl, r, rfl⟩) | (go_at_call 77; (with_reducible refine (floor_c _ _ (by omega) (by omega) (by omega) _).mono ?_); rintro e w' ⟨rfl, rfl⟩))
  go_returns
  exact ⟨rfl, (by repeat (first | exact More.refl _ | refine More.alloc ?_ _ | refine More.more ?_ _ | refine More.drew ?_ | refine More.drewN ?_ _))⟩

set_option maxHeartbeats 4000000 in
theorem mul_iv_c (a b : Iv) (W : World) :
    Calls Try.prog 32 #[ivV a, ivV b] W fun e w' => e = .returned (ivV (ivMul a b)) ∧ More W w' := by
  unfold ivMul
  by_cases h : ivBoth a b = true
  · rw [if_pos h]
    have p1 := prod_in h a.lo b.lo (.inl rfl) (.inl rfl)
    have p2 := prod_in h a.lo b.hi (.inl rfl) (.inr rfl)
    have p3 := prod_in h a.hi b.lo (.inr rfl) (.inl rfl)
    have p4 := prod_in h a.hi b.hi (.inr rfl) (.inr rfl)
    go_enter Try.func32, Try.ntmps32
    go_wp2_with (first | (go_at_call 15; (with_reducible refine (none_c _).mono ?_); rintro e w' ⟨rfl, r, rfl⟩) | (go_at_call 39; (with_reducible refine (both_c _ _ _).mono ?_); rintro e w' ⟨rfl, r, rfl⟩) | (go_at_call 39; (with_reducible refine (both_c _ ⟨_, _, _⟩ _).mono ?_); rintro e w' ⟨rfl, r, rfl⟩) | (go_at_call 39; (with_reducible refine (both_c ⟨_, _, _⟩ _ _).mono ?_); rintro e w' ⟨rfl, r, rfl⟩) | (go_at_call 39; (with_reducible refine (both_c ⟨_, _, _⟩ ⟨_, _, _⟩ _).mono ?_); rintro e w' ⟨rfl, r, rfl⟩) | (go_at_call 60; (with_reducible refine (out_c _ _ (by omega) (by omega) _).mono ?_); rintro e w' ⟨rfl, r, rfl⟩) | ((with_reducible show Code.wp _ (Code.region 3 _ true) _ _ _); (with_reducible refine wp_more_quick_m (id := 3) ?_ ?_ ?_); kernel_rfl; kernel_rfl; (try simp only [List.take_succ_cons, List.take_zero, List.drop_succ_cons, List.drop_zero]); (repeat (any_goals (first | go_big_quiet_step (fail) | quiet_step (fail)))); (with_reducible refine wpQuiet_nil ?_); intro r) | ((with_reducible show Code.wp _ (Code.region 3 _ true) _ _ _); (with_reducible refine wp_more_quick (id := 3) ?_ ?_ ?_); kernel_rfl; kernel_rfl; (try simp only [List.take_succ_cons, List.take_zero, List.drop_succ_cons, List.drop_zero]); (repeat (any_goals (first | go_big_quiet_step (fail) | quiet_step (fail)))); (with_reducible refine wpQuiet_nil ?_); intro r))
    go_returns
    exact ⟨rfl, (by repeat (first | exact More.refl _ | refine More.alloc ?_ _ | refine More.more ?_ _ | refine More.drew ?_ | refine More.drewN ?_ _))⟩
  · rw [if_neg h]
    go_enter Try.func32, Try.ntmps32
    go_wp2_with (first | (go_at_call 15; (with_reducible refine (none_c _).mono ?_); rintro e w' ⟨rfl, r, rfl⟩) | (go_at_call 39; (with_reducible refine (both_c _ _ _).mono ?_); rintro e w' ⟨rfl, r, rfl⟩) | (go_at_call 39; (with_reducible refine (both_c _ ⟨_, _, _⟩ _).mono ?_); rintro e w' ⟨rfl, r, rfl⟩) | (go_at_call 39; (with_reducible refine (both_c ⟨_, _, _⟩ _ _).mono ?_); rintro e w' ⟨rfl, r, rfl⟩) | (go_at_call 39; (with_reducible refine (both_c ⟨_, _, _⟩ ⟨_, _, _⟩ _).mono ?_); rintro e w' ⟨rfl, r, rfl⟩) | (go_at_call 60; (with_reducible refine (out_c _ _ (by omega) (by omega) _).mono ?_); rintro e w' ⟨rfl, r, rfl⟩) | ((with_reducible show Code.wp _ (Code.region 3 _ true) _ _ _); (with_reducible refine wp_more_quick_m (id := 3) ?_ ?_ ?_); kernel_rfl; kernel_rfl; (try simp only [List.take_succ_cons, List.take_zero, List.drop_succ_cons, List.drop_zero]); (repeat (any_goals (first | go_big_quiet_step (fail) | quiet_step (fail)))); (with_reducible refine wpQuiet_nil ?_); intro r) | ((with_reducible show Code.wp _ (Code.region 3 _ true) _ _ _); (with_reducible refine wp_more_quick (id := 3) ?_ ?_ ?_); kernel_rfl; kernel_rfl; (try simp only [List.take_succ_cons, List.take_zero, List.drop_succ_cons, List.drop_zero]); (repeat (any_goals (first | go_big_quiet_step (fail) | quiet_step (fail)))); (with_reducible refine wpQuiet_nil ?_); intro r))
    go_returns
    exact ⟨rfl, (by repeat (first | exact More.refl _ | refine More.alloc ?_ _ | refine More.more ?_ _ | refine More.drew ?_ | refine More.drewN ?_ _))⟩

set_option maxHeartbeats 4000000 in
theorem has_c (a : Iv) (n : Int) (W : World) :
    Calls Try.prog 17 #[ivV a, .int .i64 n] W fun e w' => e = .returned (.bool (ivHas a n)) ∧ More W w' := by
  unfold ivHas
  cases h0 : ivRight a <;> cases h1 : decide (a.lo ≤ n) <;> cases h2 : decide (n ≤ a.hi)
  all_goals
    go_enter Try.func17, Try.ntmps17
    go_wp2_with (first | (go_at_call 30; (with_reducible refine (right_c _ _).mono ?_); rintro e w' ⟨rfl, r, rfl⟩) | (go_at_call 30; (with_reducible refine (right_c ⟨_, _, _⟩ _).mono ?_); rintro e w' ⟨rfl, r, rfl⟩))
    go_returns
    exact ⟨rfl, (by repeat (first | exact More.refl _ | refine More.alloc ?_ _ | refine More.more ?_ _ | refine More.drew ?_ | refine More.drewN ?_ _))⟩

set_option maxHeartbeats 4000000 in
theorem inside_c (a b : Iv) (W : World) :
    Calls Try.prog 56 #[ivV a, ivV b] W fun e w' => e = .returned (.bool (ivInside a b)) ∧ More W w' := by
  unfold ivInside
  cases h0 : ivBoth a b <;> cases h1 : decide (b.lo ≤ a.lo) <;> cases h2 : decide (a.hi ≤ b.hi)
  all_goals
    go_enter Try.func56, Try.ntmps56
    go_wp2_with (first | (go_at_call 39; (with_reducible refine (both_c _ _ _).mono ?_); rintro e w' ⟨rfl, r, rfl⟩) | (go_at_call 39; (with_reducible refine (both_c _ ⟨_, _, _⟩ _).mono ?_); rintro e w' ⟨rfl, r, rfl⟩) | (go_at_call 39; (with_reducible refine (both_c ⟨_, _, _⟩ _ _).mono ?_); rintro e w' ⟨rfl, r, rfl⟩) | (go_at_call 39; (with_reducible refine (both_c ⟨_, _, _⟩ ⟨_, _, _⟩ _).mono ?_); rintro e w' ⟨rfl, r, rfl⟩))
    go_returns
    exact ⟨rfl, (by repeat (first | exact More.refl _ | refine More.alloc ?_ _ | refine More.more ?_ _ | refine More.drew ?_ | refine More.drewN ?_ _))⟩

set_option maxHeartbeats 4000000 in
theorem sqr_c (a : Iv) (W : World) :
    Calls Try.prog 59 #[ivV a] W fun e w' => e = .returned (ivV (ivSqr a)) ∧ More W w' := by
  unfold ivSqr
  by_cases h : ivRight a = true
  · rw [if_pos h]
    obtain ⟨⟨b1, b2⟩, ⟨b3, b4⟩, b5⟩ := right_bd h
    have p1 := mul_bd (A := 1073741824) (B := 1073741824) ⟨b1, b2⟩ ⟨b1, b2⟩
    have p2 := mul_bd (A := 1073741824) (B := 1073741824) ⟨b3, b4⟩ ⟨b3, b4⟩
    by_cases h2 : ivHas a 0 = true
    · rw [if_pos h2]
      go_enter Try.func59, Try.ntmps59
      go_wp2_with (first | (go_at_call 15; (with_reducible refine (none_c _).mono ?_); rintro e w' ⟨rfl, r, rfl⟩) | (go_at_call 17; (with_reducible refine (has_c _ _ _).mono ?_); rintro e w' ⟨rfl, r, rfl⟩) | (go_at_call 17; (with_reducible refine (has_c ⟨_, _, _⟩ _ _).mono ?_); rintro e w' ⟨rfl, r, rfl⟩) | (go_at_call 30; (with_reducible refine (right_c _ _).mono ?_); rintro e w' ⟨rfl, r, rfl⟩) | (go_at_call 30; (with_reducible refine (right_c ⟨_, _, _⟩ _).mono ?_); rintro e w' ⟨rfl, r, rfl⟩) | (go_at_call 60; (with_reducible refine (out_c _ _ (by omega) (by omega) _).mono ?_); rintro e w' ⟨rfl, r, rfl⟩) | ((with_reducible show Code.wp _ (Code.region 3 _ true) _ _ _); (with_reducible refine wp_more_quick_m (id := 3) ?_ ?_ ?_); kernel_rfl; kernel_rfl; (try simp only [List.take_succ_cons, List.take_zero, List.drop_succ_cons, List.drop_zero]); (repeat (any_goals (first | go_big_quiet_step (fail) | quiet_step (fail)))); (with_reducible refine wpQuiet_nil ?_); intro r) | ((with_reducible show Code.wp _ (Code.region 3 _ true) _ _ _); (with_reducible refine wp_more_quick (id := 3) ?_ ?_ ?_); kernel_rfl; kernel_rfl; (try simp only [List.take_succ_cons, List.take_zero, List.drop_succ_cons, List.drop_zero]); (repeat (any_goals (first | go_big_quiet_step (fail) | quiet_step (fail)))); (with_reducible refine wpQuiet_nil ?_); intro r))
      go_returns
      exact ⟨rfl, (by repeat (first | exact More.refl _ | refine More.alloc ?_ _ | refine More.more ?_ _ | refine More.drew ?_ | refine More.drewN ?_ _))⟩
    · rw [if_neg h2]
      go_enter Try.func59, Try.ntmps59
      go_wp2_with (first | (go_at_call 15; (with_reducible refine (none_c _).mono ?_); rintro e w' ⟨rfl, r, rfl⟩) | (go_at_call 17; (with_reducible refine (has_c _ _ _).mono ?_); rintro e w' ⟨rfl, r, rfl⟩) | (go_at_call 17; (with_reducible refine (has_c ⟨_, _, _⟩ _ _).mono ?_); rintro e w' ⟨rfl, r, rfl⟩) | (go_at_call 30; (with_reducible refine (right_c _ _).mono ?_); rintro e w' ⟨rfl, r, rfl⟩) | (go_at_call 30; (with_reducible refine (right_c ⟨_, _, _⟩ _).mono ?_); rintro e w' ⟨rfl, r, rfl⟩) | (go_at_call 60; (with_reducible refine (out_c _ _ (by omega) (by omega) _).mono ?_); rintro e w' ⟨rfl, r, rfl⟩) | ((with_reducible show Code.wp _ (Code.region 3 _ true) _ _ _); (with_reducible refine wp_more_quick_m (id := 3) ?_ ?_ ?_); kernel_rfl; kernel_rfl; (try simp only [List.take_succ_cons, List.take_zero, List.drop_succ_cons, List.drop_zero]); (repeat (any_goals (first | go_big_quiet_step (fail) | quiet_step (fail)))); (with_reducible refine wpQuiet_nil ?_); intro r) | ((with_reducible show Code.wp _ (Code.region 3 _ true) _ _ _); (with_reducible refine wp_more_quick (id := 3) ?_ ?_ ?_); kernel_rfl; kernel_rfl; (try simp only [List.take_succ_cons, List.take_zero, List.drop_succ_cons, List.drop_zero]); (repeat (any_goals (first | go_big_quiet_step (fail) | quiet_step (fail)))); (with_reducible refine wpQuiet_nil ?_); intro r))
      go_returns
      exact ⟨rfl, (by repeat (first | exact More.refl _ | refine More.alloc ?_ _ | refine More.more ?_ _ | refine More.drew ?_ | refine More.drewN ?_ _))⟩
  · rw [if_neg h]
    go_enter Try.func59, Try.ntmps59
    go_wp2_with (first | (go_at_call 15; (with_reducible refine (none_c _).mono ?_); rintro e w' ⟨rfl, r, rfl⟩) | (go_at_call 17; (with_reducible refine (has_c _ _ _).mono ?_); rintro e w' ⟨rfl, r, rfl⟩) | (go_at_call 17; (with_reducible refine (has_c ⟨_, _, _⟩ _ _).mono ?_); rintro e w' ⟨rfl, r, rfl⟩) | (go_at_call 30; (with_reducible refine (right_c _ _).mono ?_); rintro e w' ⟨rfl, r, rfl⟩) | (go_at_call 30; (with_reducible refine (right_c ⟨_, _, _⟩ _).mono ?_); rintro e w' ⟨rfl, r, rfl⟩) | (go_at_call 60; (with_reducible refine (out_c _ _ (by omega) (by omega) _).mono ?_); rintro e w' ⟨rfl, r, rfl⟩) | ((with_reducible show Code.wp _ (Code.region 3 _ true) _ _ _); (with_reducible refine wp_more_quick_m (id := 3) ?_ ?_ ?_); kernel_rfl; kernel_rfl; (try simp only [List.take_succ_cons, List.take_zero, List.drop_succ_cons, List.drop_zero]); (repeat (any_goals (first | go_big_quiet_step (fail) | quiet_step (fail)))); (with_reducible refine wpQuiet_nil ?_); intro r) | ((with_reducible show Code.wp _ (Code.region 3 _ true) _ _ _); (with_reducible refine wp_more_quick (id := 3) ?_ ?_ ?_); kernel_rfl; kernel_rfl; (try simp only [List.take_succ_cons, List.take_zero, List.drop_succ_cons, List.drop_zero]); (repeat (any_goals (first | go_big_quiet_step (fail) | quiet_step (fail)))); (with_reducible refine wpQuiet_nil ?_); intro r))
    go_returns
    exact ⟨rfl, (by repeat (first | exact More.refl _ | refine More.alloc ?_ _ | refine More.more ?_ _ | refine More.drew ?_ | refine More.drewN ?_ _))⟩

set_option maxHeartbeats 4000000 in
theorem meet_c (a b : Iv) (W : World) :
    Calls Try.prog 31 #[ivV a, ivV b] W fun e w' => e = .returned (ivV (ivMeet a b)) ∧ More W w' := by
  unfold ivMeet
  by_cases h : ivBoth a b = true
  · rw [if_pos h]
    go_enter Try.func31, Try.ntmps31
    go_wp2_with (first | (go_at_call 9; (with_reducible refine (of_c _ _ _).mono ?_); rintro e w' ⟨rfl, r, rfl⟩) | (go_at_call 15; (with_reducible refine (none_c _).mono ?_); rintro e w' ⟨rfl, r, rfl⟩) | (go_at_call 39; (with_reducible refine (both_c _ _ _).mono ?_); rintro e w' ⟨rfl, r, rfl⟩) | (go_at_call 39; (with_reducible refine (both_c _ ⟨_, _, _⟩ _).mono ?_); rintro e w' ⟨rfl, r, rfl⟩) | (go_at_call 39; (with_reducible refine (both_c ⟨_, _, _⟩ _ _).mono ?_); rintro e w' ⟨rfl, r, rfl⟩) | (go_at_call 39; (with_reducible refine (both_c ⟨_, _, _⟩ ⟨_, _, _⟩ _).mono ?_); rintro e w' ⟨rfl, r, rfl⟩))
    go_returns
    exact ⟨rfl, (by repeat (first | exact More.refl _ | refine More.alloc ?_ _ | refine More.more ?_ _ | refine More.drew ?_ | refine More.drewN ?_ _))⟩
  · rw [if_neg h]
    go_enter Try.func31, Try.ntmps31
    go_wp2_with (first | (go_at_call 9; (with_reducible refine (of_c _ _ _).mono ?_); rintro e w' ⟨rfl, r, rfl⟩) | (go_at_call 15; (with_reducible refine (none_c _).mono ?_); rintro e w' ⟨rfl, r, rfl⟩) | (go_at_call 39; (with_reducible refine (both_c _ _ _).mono ?_); rintro e w' ⟨rfl, r, rfl⟩) | (go_at_call 39; (with_reducible refine (both_c _ ⟨_, _, _⟩ _).mono ?_); rintro e w' ⟨rfl, r, rfl⟩) | (go_at_call 39; (with_reducible refine (both_c ⟨_, _, _⟩ _ _).mono ?_); rintro e w' ⟨rfl, r, rfl⟩) | (go_at_call 39; (with_reducible refine (both_c ⟨_, _, _⟩ ⟨_, _, _⟩ _).mono ?_); rintro e w' ⟨rfl, r, rfl⟩))
    go_returns
    exact ⟨rfl, (by repeat (first | exact More.refl _ | refine More.alloc ?_ _ | refine More.more ?_ _ | refine More.drew ?_ | refine More.drewN ?_ _))⟩

set_option maxHeartbeats 4000000 in
theorem iroot_c (a : Iv) (W : World) :
    Calls Try.prog 63 #[ivV a] W fun e w' => e = .returned (ivV (ivRoot a)) ∧ More W w' := by
  unfold ivRoot
  cases h0 : ivRight a <;> cases h1 : (rootN a.lo false).2 <;> cases h2 : (rootN a.hi true).2
  all_goals
    simp only [Bool.and_true, Bool.and_false, if_true, if_false, Bool.false_eq_true]
    go_enter Try.func63, Try.ntmps63
    go_wp2_with (first | (go_at_call 9; (with_reducible refine (of_c _ _ _).mono ?_); rintro e w' ⟨rfl, r, rfl⟩) | (go_at_call 15; (with_reducible refine (none_c _).mono ?_); rintro e w' ⟨rfl, r, rfl⟩) | (go_at_call 30; (with_reducible refine (right_c _ _).mono ?_); rintro e w' ⟨rfl, r, rfl⟩) | (go_at_call 30; (with_reducible refine (right_c ⟨_, _, _⟩ _).mono ?_); rintro e w' ⟨rfl, r, rfl⟩) | (go_at_call 78; (with_reducible refine (root_c _ _ _).mono ?_); rintro e w' ⟨rfl, rfl⟩))
    go_returns
    exact ⟨rfl, (by repeat (first | exact More.refl _ | refine More.alloc ?_ _ | refine More.more ?_ _ | refine More.drew ?_ | refine More.drewN ?_ _))⟩

end Go.Proofs.Ytekhhekkepijoaa

namespace Go.Proofs.Ytekhhekkepijoaa
set_option linter.unusedVariables false
open Go.RowKit

/-- The cells of the slice v hold the intervals l. -/
def Row (w : World) (v : Value) (l : List Iv) : Prop :=
  (v = .slice none 0 0 ∧ l = []) ∨ ∃ g o c, v = .slice (some ⟨g, o, none⟩) l.length c ∧ ∀ k a, l[k]? = some a →
    w.cell? ⟨g, o + k * 3, none⟩ = some (.int .i64 a.lo) ∧ w.cell? ⟨g, o + k * 3 + 1, none⟩ = some (.int .i64 a.hi) ∧ w.cell? ⟨g, o + k * 3 + 2, none⟩ = some (.bool a.no)
theorem Row.nil (w : World) : Row w (.slice none 0 0) [] := .inl ⟨rfl, rfl⟩
theorem Row.keep {w w' : World} {v : Value} {l : List Iv} (h : Row w v l) (hb : ∀ k, k < w.heap.size → w'.heap[k]? = w.heap[k]?) : Row w' v l := by
  rcases h with h | ⟨g, o, c, hv, hc⟩
  · exact .inl h
  · refine .inr ⟨g, o, c, hv, fun k a hk => ?_⟩
    obtain ⟨h1, h2, h3⟩ := hc k a hk
    have hg : g < w.heap.size := World.block_lt_of_cell? w _ h1
    have e : ∀ n, w'.cell? ⟨g, n, none⟩ = w.cell? ⟨g, n, none⟩ := fun n => World.cell?_of_block (hb g hg)
    rw [e, e, e]
    exact ⟨h1, h2, h3⟩
theorem Row.more {w : World} {v : Value} {l : List Iv} (h : Row w v l) {r : Rest} : Row (more w r) v l := h.keep fun k hk => heap_more w r k hk
theorem Row.plus {w : World} {v : Value} {l : List Iv} {r s : Rest} (h : Row (_root_.Go.Proofs.Ytekhhekkepijoaa.more w r) v l) : Row (_root_.Go.Proofs.Ytekhhekkepijoaa.more w (r.plus s)) v l := by
  rw [← more_more]
  exact h.more
theorem Row.alloc {w : World} {v : Value} {l : List Iv} (h : Row w v l) {o : Obj} : Row (w.alloc o) v l := h.keep fun k hk => Below.heap_alloc w o k hk
theorem Row.drew {w : World} {v : Value} {l : List Iv} (h : Row w v l) : Row w.drew v l := h.keep fun _ _ => rfl
theorem Row.drewN {w : World} {v : Value} {l : List Iv} (h : Row w v l) {n : Nat} : Row (w.drewN n) v l := h.keep fun _ _ => rfl
theorem Row.up {w w' : World} {v : Value} {l : List Iv} (h : Row w v l) (hm : More w w') : Row w' v l := by
  obtain ⟨r, rfl⟩ := hm
  exact h.more

/-- One interval's three cells; those of a list. -/
def cells1 (a : Iv) : List Value := [.int .i64 a.lo, .int .i64 a.hi, .bool a.no]
def cellsL : List Iv → List Value
  | [] => []
  | a :: r => cells1 a ++ cellsL r
theorem cellsL_length : ∀ l : List Iv, (cellsL l).length = l.length * 3
  | [] => rfl
  | a :: r => by simp [cellsL, cells1, cellsL_length r]; omega
theorem cellsL_at : ∀ (l : List Iv) (k : Nat) (a : Iv), l[k]? = some a →
    (cellsL l)[k * 3]? = some (.int .i64 a.lo) ∧ (cellsL l)[k * 3 + 1]? = some (.int .i64 a.hi) ∧ (cellsL l)[k * 3 + 2]? = some (.bool a.no)
  | [], k, a, h => by simp at h
  | b :: r, 0, a, h => by
    simp at h
    subst h
    simp [cellsL, cells1]
  | b :: r, k + 1, a, h => by
    have := cellsL_at r k a (by simpa using h)
    simp only [cellsL, cells1, List.cons_append, List.nil_append]
    rw [show (k + 1) * 3 = k * 3 + 1 + 1 + 1 by omega, show k * 3 + 1 + 1 + 1 + 1 = (k * 3 + 1) + 1 + 1 + 1 by omega, show k * 3 + 1 + 1 + 1 + 2 = (k * 3 + 2) + 1 + 1 + 1 by omega]
    simpa using this
/-- A row of cells that begins with those of l holds l. -/
theorem Row.of_cells {w : World} {g c : Nat} {e : TypeId} {cur : Array Value} {l : List Iv} {x : Value} (hx : x = .slice (some ⟨g, 0, none⟩) l.length c) (hg : w.heap[g]? = some (.cells cur e (0, 0))) (ht : cur.toList.take (l.length * 3) = cellsL l) : Row w x l := by
  refine .inr ⟨g, 0, c, hx, fun k a hk => ?_⟩
  have hlt : k < l.length := (List.getElem?_eq_some_iff.1 hk).1
  obtain ⟨h1, h2, h3⟩ := cellsL_at l k a hk
  rw [← ht] at h1 h2 h3
  have e : ∀ n u, (cur.toList.take (l.length * 3))[n]? = some u → w.cell? ⟨g, n, none⟩ = some u := fun n u hu => by
    have hn : n < l.length * 3 := by
      have := (List.getElem?_eq_some_iff.1 hu).1
      simp at this
      omega
    rw [List.getElem?_take_of_lt hn] at hu
    simp [World.cell?, hg]
    simpa using hu
  simp only [Nat.zero_add]
  exact ⟨e _ _ h1, e _ _ h2, e _ _ h3⟩
theorem Row.lit {w : World} {v : Value} {e : TypeId} {l : List Iv} {b c : Nat} {cur : Array Value} (hv : v = .slice (some ⟨b, 0, none⟩) l.length c) (hb : b = w.heap.size) (ht : cur.toList = cellsL l) : Row (w.alloc (.cells cur e)) v l := by
  subst hb
  refine Row.of_cells hv (heap_alloc_new w _) ?_
  rw [ht, ← cellsL_length, List.take_length]
theorem owns_keep {w w' : World} {base n size : Nat} {e : TypeId} {v : Value} {xs : List Value} (h : w.ownsRow base e size v n xs) (hb : ∀ k, k < w.heap.size → w'.heap[k]? = w.heap[k]?) : w'.ownsRow base e size v n xs := by
  obtain ⟨hl, h⟩ := h
  refine ⟨hl, ?_⟩
  rcases h with h | ⟨g, cap, cur, hv, hg, hc, h1⟩
  · exact .inl h
  · exact .inr ⟨g, cap, cur, hv, hg, (hb g ((Array.getElem?_eq_some_iff.1 hc).1)).trans hc, h1⟩
theorem owns_more {w : World} {base n size : Nat} {e : TypeId} {v : Value} {xs : List Value} (h : w.ownsRow base e size v n xs) {r : Rest} : (more w r).ownsRow base e size v n xs := owns_keep h fun k hk => heap_more w r k hk
/-! Sums of powers and slopes. -/
def slopeTo (l : List Iv) (k : Nat) : List Iv := (List.range k).map fun i => ivTimes (l.getD (i + 1) ivNone) ((i + 1 : Nat) : Int)
def slope (l : List Iv) : List Iv := slopeTo l (l.length - 1)
theorem slopeTo_length (l : List Iv) (k : Nat) : (slopeTo l k).length = k := by simp [slopeTo]
@[simp] theorem slope_length (l : List Iv) : (slope l).length = l.length - 1 := slopeTo_length l _
theorem mul_none (x : Iv) : ivMul ivNone x = ivNone := by unfold ivMul ivBoth; rw [right_none]; rfl
end Go.Proofs.Ytekhhekkepijoaa

namespace Go.Proofs.Ytekhhekkepijoaa
set_option linter.unusedVariables false
open Go.ChangeShapes Go.WideShapes Go.ChangeAt Go.RowKit

/-! Rows of the call's own. -/
/-- Two rows that lie apart. -/
def Off2 (v u : Value) : Prop := v.ownBlock = none ∨ v.ownBlock ≠ u.ownBlock
theorem Off2.symm {v u : Value} (h : Off2 v u) : Off2 u v := by
  unfold Off2 at *
  rcases h with h | h
  · rw [h]
    cases u.ownBlock with
    | none => exact .inl rfl
    | some g => exact .inr (by simp)
  · exact .inr (Ne.symm h)
theorem Off2.step {w : World} {base n size : Nat} {e : TypeId} {v u u' : Value} {xs : List Value} (h : Off2 v u) (hv : w.ownsRow base e size v n xs) (hu : u'.ownBlock = u.ownBlock ∨ ∀ g, u'.ownBlock = some g → w.heap.size ≤ g) : Off2 v u' := by
  unfold Off2 at *
  rcases hu with hu | hu
  · rw [hu]; exact h
  · cases hb : v.ownBlock with
    | none => exact .inl rfl
    | some g =>
      refine .inr fun he => ?_
      have h1 := hu g he.symm
      have h2 := (hv.lt g hb).2
      omega
end Go.Proofs.Ytekhhekkepijoaa

namespace Go.Proofs.Ytekhhekkepijoaa
set_option linter.unusedVariables false
set_option linter.unusedVariables false
open Ieee

/-- The word of a whole number with a sign (a 0 has one, too). -/
def fb (neg : Bool) (c : Nat) : Nat := double.nearest neg c 0
/-! Whole numbers whose 0 has no sign. -/
def fw (n : Int) : Nat := fb (n < 0) n.natAbs
end Go.Proofs.Ytekhhekkepijoaa

namespace Go.Proofs.Ytekhhekkepijoaa
set_option linter.unusedVariables false
open Ieee

/-- The sign of a whole number, of a 0 as told. -/
def zn (n : Int) (z : Bool) : Bool := if n = 0 then z else decide (n < 0)
def ww (n : Int) (z : Bool) : Nat := fb (zn n z) n.natAbs
theorem ww_fw (n : Int) : ww n false = fw n := by
  unfold ww fw zn
  by_cases h : n = 0
  · subst h; rfl
  · rw [if_neg h]
theorem ofInt_ww (n : Int) : floatOfInt .f64 n = ww n false := by rw [ww_fw]; rfl
/-! Words of any kind. -/
/-- Within the bounds, by the comparisons that are made. -/
def inLo (x : Nat) : Bool := double.order 13920626448202203136 x == some .lt || double.order 13920626448202203136 x == some .eq
def inHi (x : Nat) : Bool := double.order x 4697254411347427328 == some .lt || double.order x 4697254411347427328 == some .eq
/-- Without what is behind the point. -/
def truncw (x : Nat) : Nat := double.write ((double.read x).integral .zero)
def isT (x : Nat) : Bool := double.order x (truncw x) == some .eq
def wp (x : Nat) : Bool := inLo x && (inHi x && isT x)
end Go.Proofs.Ytekhhekkepijoaa

namespace Go.Proofs.Ytekhhekkepijoaa
set_option linter.unusedVariables false
open Go.ChangeShapes Go.WideShapes Go.ChangeAt Go.RowKit

set_option maxHeartbeats 4000000 in
theorem pick_c (n m : Int) (hn : -9223372036854775808 ≤ n) (hn' : n ≤ 9223372036854775807) (hm : 0 < m) (hm' : m ≤ 9223372036854775807) (W : World) :
    Calls Try.prog 22 #[.int .i64 n, .int .i64 m] W fun e w' => e = .returned (.int .i64 (n % m)) ∧ W = w' := by
  have h1 := Int.emod_nonneg n (show m ≠ 0 by omega)
  have h2 := Int.emod_lt_of_pos n hm
  by_cases h0 : 0 ≤ n
  · have h3 : ¬ n % m < 0 := by omega
    go_enter Try.func22, Try.ntmps22
    go_wp2_with fail
    go_ret
    exact ⟨rfl, rfl⟩
  · have h4 : n.tmod m = -((-n).tmod m) := by rw [Int.neg_tmod]; omega
    have h5 : (-n).tmod m = (-n) % m := Int.tmod_eq_emod_of_nonneg (by omega)
    have h6 := Int.emod_nonneg (-n) (show m ≠ 0 by omega)
    have h7 := Int.emod_lt_of_pos (-n) hm
    have h8 : n % m = if n.tmod m < 0 then n.tmod m + m else n.tmod m := by
      have h9 := Int.tmod_eq_emod (a := n) (b := m)
      have h10 : m.natAbs = m := by omega
      split at h9 <;> split <;> omega
    rw [h8]
    clear h8
    by_cases h11 : n.tmod m < 0
    · rw [if_pos h11]
      have hb : -m < n.tmod m := by omega
      clear h4 h5 h6 h7 h1 h2
      go_enter Try.func22, Try.ntmps22
      go_wp2_with fail
      go_ret
      exact ⟨rfl, rfl⟩
    · rw [if_neg h11]
      clear h4 h5 h6 h7 h1 h2
      go_enter Try.func22, Try.ntmps22
      go_wp2_with fail
      go_ret
      exact ⟨rfl, rfl⟩

set_option maxHeartbeats 4000000 in
theorem hnum_c (n : Int) (hn : -9223372036854775808 ≤ n) (hn' : n ≤ 9223372036854775807) (W : World) :
    Calls Try.prog 43 #[.int .i64 n] W fun e w' => e = .returned (.int .i64 (hnum n)) ∧ W = w' := by
  have d := tdiv_bd n 9 hn hn' (by omega)
  have p0 := Int.emod_nonneg n (show (9 : Int) ≠ 0 by omega)
  have p1 := Int.emod_lt_of_pos n (show (0 : Int) < 9 by omega)
  have e : ∃ y, y = hnum n := ⟨_, rfl⟩
  obtain ⟨y, hy⟩ := e
  rw [← hy]
  unfold hnum at hy
  by_cases h0 : n % 9 = 0
  · rw [if_pos h0] at hy
    have HY := Lib.hid hy
    clear hy
    go_enter Try.func43, Try.ntmps43
    go_wp2_with (first | (go_at_call 22; (with_reducible refine (pick_c _ _ (by omega) (by omega) (by omega) (by omega) _).mono ?_); rintro e w' ⟨rfl, rfl⟩))
    go_ret
    exact ⟨ret_int HY.out.symm, rfl⟩
  · rw [if_neg h0] at hy
    by_cases h1 : n % 9 = 1
    · rw [if_pos h1] at hy
      have HY := Lib.hid hy
      clear hy
      go_enter Try.func43, Try.ntmps43
      go_wp2_with (first | (go_at_call 22; (with_reducible refine (pick_c _ _ (by omega) (by omega) (by omega) (by omega) _).mono ?_); rintro e w' ⟨rfl, rfl⟩))
      go_ret
      exact ⟨ret_int HY.out.symm, rfl⟩
    · rw [if_neg h1] at hy
      by_cases h2 : n % 9 = 2
      · rw [if_pos h2] at hy
        have HY := Lib.hid hy
        clear hy
        go_enter Try.func43, Try.ntmps43
        go_wp2_with (first | (go_at_call 22; (with_reducible refine (pick_c _ _ (by omega) (by omega) (by omega) (by omega) _).mono ?_); rintro e w' ⟨rfl, rfl⟩))
        go_ret
        exact ⟨ret_int HY.out.symm, rfl⟩
      · rw [if_neg h2] at hy
        by_cases h3 : n % 9 = 3
        · rw [if_pos h3] at hy
          have HY := Lib.hid hy
          clear hy
          go_enter Try.func43, Try.ntmps43
          go_wp2_with (first | (go_at_call 22; (with_reducible refine (pick_c _ _ (by omega) (by omega) (by omega) (by omega) _).mono ?_); rintro e w' ⟨rfl, rfl⟩))
          go_ret
          exact ⟨ret_int HY.out.symm, rfl⟩
        · rw [if_neg h3] at hy
          have HY := Lib.hid hy
          clear hy
          go_enter Try.func43, Try.ntmps43
          go_wp2_with (first | (go_at_call 22; (with_reducible refine (pick_c _ _ (by omega) (by omega) (by omega) (by omega) _).mono ?_); rintro e w' ⟨rfl, rfl⟩))
          go_ret
          exact ⟨ret_int HY.out.symm, rfl⟩

end Go.Proofs.Ytekhhekkepijoaa

namespace Go.Proofs.Ytekhhekkepijoaa
set_option linter.unusedVariables false
open Go.ChangeShapes Go.WideShapes Go.ChangeAt Go.RowKit

/-- A complex number of whole parts, with the signs of its zeros. -/
structure Cx where
  x : Int
  s : Bool
  y : Int
  t : Bool
@[reducible] def cxV (c : Cx) : Value := .complex .f64 (ww c.x c.s) (ww c.y c.t)
/-- Any complex number. -/
structure Cw where
  a : Nat
  b : Nat
@[reducible] def cwV (c : Cw) : Value := .complex .f64 c.a c.b
structure Pt where
  x : Int
  y : Int
@[reducible] def ptV (p : Pt) : Value := .agg #[.int .i64 p.x, .int .i64 p.y]
structure Bm where
  n : Cx
  d : Cx
@[reducible] def bmV (b : Bm) : Value := .agg #[cxV b.n, cxV b.d]
structure Bp where
  n : Pt
  d : Pt
@[reducible] def bpV (b : Bp) : Value := .agg #[.int .i64 b.n.x, .int .i64 b.n.y, .int .i64 b.d.x, .int .i64 b.d.y]
structure M4 where
  a : Int
  b : Int
  c : Int
  d : Int
@[reducible] def m4V (m : M4) : Value := .agg #[.int .i64 m.a, .int .i64 m.b, .int .i64 m.c, .int .i64 m.d]
@[go_sem] theorem fmt64 : FloatKind.f64.format = Ieee.double := rfl
@[go_sem] theorem unary_negf (k : FloatKind) (b : Nat) : Op.unary .neg (.float k b) = pure (.float k (Op.negFloat k b)) := rfl
section
variable (P : Program) (w : World) (a : Addr) (m : Mode)
@[go_sem] theorem run_store_complex (k : FloatKind) (x y : Nat) : (store a (.complex k x y) m).run P w = stored P w a (.complex k x y) m := run_store P w a _ m rfl
@[go_sem] theorem run_store_float (k : FloatKind) (x : Nat) : (store a (.float k x) m).run P w = stored P w a (.float k x) m := run_store P w a _ m rfl
end


attribute [go_sem] ofInt_ww

/-! What operations on whole parts give. -/
section
variable {P : Program}
@[reducible] def In52 (n : Int) : Prop := -4503599627370495 ≤ n ∧ n ≤ 4503599627370495
end
@[go_sem] theorem and3 (n : Int) : _root_.Go.bits .and .i64 n 3 = n % 4 := by
  have h3 : (BitVec.ofInt 64 3).toNat = 2 ^ 2 - 1 := by decide
  have key : (BitVec.ofInt 64 n &&& BitVec.ofInt 64 3).toNat = (n % ((2 ^ 64 : Nat) : Int)).toNat % 2 ^ 2 := by
    rw [BitVec.toNat_and, BitVec.toNat_ofInt, h3, Nat.and_two_pow_sub_one_eq_mod]
  show IntKind.i64.wrap ((BitVec.ofInt 64 n &&& BitVec.ofInt 64 3).toNat : Nat) = n % 4
  rw [key, IntKind.wrap_i64]
  omega

/-! In plain numbers. -/
@[reducible] def cxP (p : Pt) : Value := .complex .f64 (ww p.x false) (ww p.y false)

structure Fx where
  n : Int
  z : Bool
@[reducible] def fxV (f : Fx) : Value := .float .f64 (ww f.n f.z)

end Go.Proofs.Ytekhhekkepijoaa

namespace Go.Proofs.Ytekhhekkepijoaa
set_option linter.unusedVariables false
open Go.ChangeShapes Go.WideShapes Go.ChangeAt Go.RowKit

set_option maxHeartbeats 4000000 in
theorem rin_c (n : Int) (W : World) :
    Calls Try.prog 70 #[.int .i64 n] W fun e w' => e = .returned (.bool (isIn n)) ∧ W = w' := by
  by_cases h1 : -1073741824 ≤ n <;> by_cases h2 : n ≤ 1073741824
  all_goals
    go_enter Try.func70, Try.ntmps70
    go_wp2_with fail
    go_ret
    exact ⟨by simp [isIn, h1, h2], rfl⟩

set_option maxHeartbeats 4000000 in
theorem rtold_c (n : Int) (W : World) :
    Calls Try.prog 80 #[.int .i64 n] W fun e w' => e = .returned (.tuple #[.int .i64 (told n).1, .bool (told n).2]) ∧ W = w' := by
  by_cases h1 : isIn n = true
  all_goals
    go_enter Try.func80, Try.ntmps80
    go_wp2_with (first | (go_at_call 70; (with_reducible refine (rin_c _ _).mono ?_); rintro e w' ⟨rfl, rfl⟩))
    go_ret2
    exact ⟨by simp [told, h1], rfl⟩

set_option maxHeartbeats 4000000 in
theorem rfloor_c (a b : Int) (ha : -9223372036854775808 ≤ a) (ha' : a ≤ 9223372036854775807) (hn : ¬ (a = -9223372036854775808 ∧ b = -1)) (W : World) :
    Calls Try.prog 82 #[.int .i64 a, .int .i64 b] W fun e w' => e = .returned (.int .i64 (a.fdiv b)) ∧ W = w' := by
  have hb := tdiv_bd a b ha ha' hn
  clear hn
  by_cases h0 : b = 0
  · subst h0
    go_enter Try.func82, Try.ntmps82
    go_wp2_with fail
    go_ret
    exact ⟨ret_int (by simp), rfl⟩
  · have hf := fdiv_of a b h0
    by_cases hr : a.tmod b = 0
    · rw [if_neg (by simp [hr])] at hf
      rw [hf]
      clear hf
      go_enter Try.func82, Try.ntmps82
      go_wp2_with fail
      go_ret
      exact ⟨rfl, rfl⟩
    · have hb2 := tdiv_bd2 a b ha ha' hr
      have hr2 : 0 ≤ a → ¬ a % b = 0 := fun h => by rw [← Int.tmod_eq_emod_of_nonneg h]; exact hr
      have hs : 0 ≤ a → ¬ a % b < 0 := fun h => by have := Int.emod_nonneg a h0; omega
      have hs1 : a < 0 → a.tmod b < 0 := fun h => by
        have h1 : a.tmod b = -((-a).tmod b) := by rw [Int.neg_tmod]; omega
        have h2 := Int.tmod_nonneg b (show 0 ≤ -a by omega)
        omega
      by_cases h1 : a < 0 <;> by_cases h2 : b < 0
      all_goals
        first
        | (rw [if_neg (fun h => h.2 (by omega))] at hf)
        | (rw [if_pos ⟨hr, by omega⟩] at hf)
        rw [hf]
        clear hf
        first
        | (have hr3 := hr2 (by omega); have hs3 := hs (by omega))
        | have hs3 := hs1 (by omega)
        clear hr2 hs hs1
        go_enter Try.func82, Try.ntmps82
        go_wp2_with fail
        go_ret
        exact ⟨rfl, rfl⟩


set_option maxHeartbeats 4000000 in
theorem rceil_c (a b : Int) (ha : -1152921504606846976 ≤ a ∧ a ≤ 1152921504606846976) (hb : -1152921504606846976 ≤ b ∧ b ≤ 1152921504606846976) (h0 : b ≠ 0) (W : World) :
    Calls Try.prog 81 #[.int .i64 a, .int .i64 b] W fun e w' => e = .returned (.int .i64 (-((-a).fdiv b))) ∧ W = w' := by
  rw [ceil_eq a b h0]
  have h1 := fdiv_abs a b
  have h2 := fdiv_mul_bd a b ha hb
  by_cases hc : a.fdiv b * b = a
  · rw [if_pos hc]
    have HC := Lib.hid hc
    have hd : ((a.fdiv b * b) == a) = true := by simp [hc]
    clear hc
    go_enter Try.func81, Try.ntmps81
    go_wp2_with (first | (go_at_call 82; (with_reducible refine (rfloor_c _ _ (by omega) (by omega) (by omega) _).mono ?_); rintro e w' ⟨rfl, rfl⟩))
    go_ret
    exact ⟨rfl, rfl⟩
  · rw [if_neg hc]
    go_enter Try.func81, Try.ntmps81
    go_wp2_with (first | (go_at_call 82; (with_reducible refine (rfloor_c _ _ (by omega) (by omega) (by omega) _).mono ?_); rintro e w' ⟨rfl, rfl⟩))
    go_ret
    exact ⟨rfl, rfl⟩

set_option maxHeartbeats 4000000 in
theorem rmul_c (a b : Int) (up : Bool) (W : World) :
    Calls Try.prog 74 #[.int .i64 a, .int .i64 b, .bool up] W fun e w' => e = .returned (.tuple #[.int .i64 (mulN a b up).1, .bool (mulN a b up).2]) ∧ W = w' := by
  by_cases ha : isIn a = true <;> by_cases hb : isIn b = true
  · have h1 := in_mul ha hb
    have e : mulN a b up = told (quo (a * b) 65536 up) := by simp [mulN, ha, hb]
    rw [e]
    clear e
    cases up
    all_goals
      first | rw [quo_up] | rw [quo_dn]
      go_enter Try.func74, Try.ntmps74
      go_wp2_with (first | (go_at_call 70; (with_reducible refine (rin_c _ _).mono ?_); rintro e w' ⟨rfl, rfl⟩) | (go_at_call 80; (with_reducible refine (rtold_c _ _).mono ?_); rintro e w' ⟨rfl, rfl⟩) | (go_at_call 81; (with_reducible refine (rceil_c _ _ (by omega) (by omega) (by omega) _).mono ?_); rintro e w' ⟨rfl, rfl⟩) | (go_at_call 82; (with_reducible refine (rfloor_c _ _ (by omega) (by omega) (by omega) _).mono ?_); rintro e w' ⟨rfl, rfl⟩))
      go_ret2
      exact ⟨rfl, rfl⟩
  all_goals
    have e : mulN a b up = (0, false) := by simp [mulN, ha, hb]
    rw [e]
    clear e
    go_enter Try.func74, Try.ntmps74
    go_wp2_with (first | (go_at_call 70; (with_reducible refine (rin_c _ _).mono ?_); rintro e w' ⟨rfl, rfl⟩) | (go_at_call 80; (with_reducible refine (rtold_c _ _).mono ?_); rintro e w' ⟨rfl, rfl⟩) | (go_at_call 81; (with_reducible refine (rceil_c _ _ (by omega) (by omega) (by omega) _).mono ?_); rintro e w' ⟨rfl, rfl⟩) | (go_at_call 82; (with_reducible refine (rfloor_c _ _ (by omega) (by omega) (by omega) _).mono ?_); rintro e w' ⟨rfl, rfl⟩))
    go_ret2
    exact ⟨rfl, rfl⟩

set_option maxHeartbeats 4000000 in
theorem rdiv_c (a b : Int) (up : Bool) (W : World) :
    Calls Try.prog 79 #[.int .i64 a, .int .i64 b, .bool up] W fun e w' => e = .returned (.tuple #[.int .i64 (divN a b up).1, .bool (divN a b up).2]) ∧ W = w' := by
  by_cases ha : isIn a = true <;> by_cases hb : isIn b = true <;> by_cases h0 : (b == 0) = true
  case neg =>
    have h1 := isIn_iff.1 ha
    have h2 := isIn_iff.1 hb
    have h3 : b ≠ 0 := by simpa using h0
    have e : divN a b up = told (quo (a * 65536) b up) := by simp [divN, ha, hb, h3]
    rw [e]
    clear e
    cases up
    all_goals
      first | rw [quo_up] | rw [quo_dn]
      go_enter Try.func79, Try.ntmps79
      go_wp2_with (first | (go_at_call 70; (with_reducible refine (rin_c _ _).mono ?_); rintro e w' ⟨rfl, rfl⟩) | (go_at_call 80; (with_reducible refine (rtold_c _ _).mono ?_); rintro e w' ⟨rfl, rfl⟩) | (go_at_call 81; (with_reducible refine (rceil_c _ _ (by omega) (by omega) (by omega) _).mono ?_); rintro e w' ⟨rfl, rfl⟩) | (go_at_call 82; (with_reducible refine (rfloor_c _ _ (by omega) (by omega) (by omega) _).mono ?_); rintro e w' ⟨rfl, rfl⟩))
      go_ret2
      exact ⟨rfl, rfl⟩
  all_goals
    have e : divN a b up = (0, false) := by simp only [divN, ha, hb, h0]; rfl
    rw [e]
    clear e
    go_enter Try.func79, Try.ntmps79
    go_wp2_with (first | (go_at_call 70; (with_reducible refine (rin_c _ _).mono ?_); rintro e w' ⟨rfl, rfl⟩) | (go_at_call 80; (with_reducible refine (rtold_c _ _).mono ?_); rintro e w' ⟨rfl, rfl⟩) | (go_at_call 81; (with_reducible refine (rceil_c _ _ (by omega) (by omega) (by omega) _).mono ?_); rintro e w' ⟨rfl, rfl⟩) | (go_at_call 82; (with_reducible refine (rfloor_c _ _ (by omega) (by omega) (by omega) _).mono ?_); rintro e w' ⟨rfl, rfl⟩))
    go_ret2
    exact ⟨rfl, rfl⟩

set_option maxHeartbeats 4000000 in
theorem rroot_c (a : Int) (up : Bool) (W : World) :
    Calls Try.prog 75 #[.int .i64 a, .bool up] W fun e w' => e = .returned (.tuple #[.int .i64 (rootN a up).1, .bool (rootN a up).2]) ∧ W = w' := by
  by_cases ha : isIn a = true <;> by_cases h0 : a < 0
  case neg =>
    have h1 := isIn_iff.1 ha
    have ⟨y1, y2⟩ := in_root ha h0
    have y3 := mul_bd (a := flRoot (a * 65536)) (b := flRoot (a * 65536)) (A := 8388608) (B := 8388608) (by omega) (by omega)
    have e : rootN a up = told (upRoot (a * 65536) up) := by simp [rootN, ha, h0]
    have e2 : ∃ y, y = upRoot (a * 65536) up := ⟨_, rfl⟩
    obtain ⟨y, hy⟩ := e2
    rw [e, ← hy]
    clear e
    have HY := Lib.hid hy
    clear hy
    cases up <;> by_cases hr : (flRoot (a * 65536) * flRoot (a * 65536) == a * 65536) = true
    all_goals
      have hy := HY.out
      simp [upRoot, hr] at hy
      have HY2 := Lib.hid hy
      clear hy HY
      have hr2 : (flRoot (a * 65536) * flRoot (a * 65536) != a * 65536) = !(flRoot (a * 65536) * flRoot (a * 65536) == a * 65536) := rfl
      (try simp only [Bool.not_eq_true] at hr)
      rw [hr] at hr2
      simp only [Bool.not_true, Bool.not_false] at hr2
      go_enter Try.func75, Try.ntmps75
      go_wp2_with (first | (go_at_call 70; (with_reducible refine (rin_c _ _).mono ?_); rintro e w' ⟨rfl, rfl⟩) | (go_at_call 80; (with_reducible refine (rtold_c _ _).mono ?_); rintro e w' ⟨rfl, rfl⟩))
      go_loop [7, 8] (fun r b => ∃ (k : Nat) (x : Int), k ≤ 24 ∧ b = .int .i64 ((k : Int) - 1) ∧ r = .int .i64 x ∧ 0 ≤ x ∧ x + 2 * bitv k ≤ 16777216 ∧ rootGo (a * 65536) k x = flRoot (a * 65536)) (fun _ b => (intOf b + 1).toNat)
      case atStart => exact ⟨24, 0, by omega, rfl, rfl, by omega, by decide, rfl⟩
      case round =>
        obtain ⟨k, x, hk, rfl, rfl, hx, hx2, hg⟩ := hrel
        cases k with
        | zero =>
          have hg2 : x = flRoot (a * 65536) := hg
          subst hg2
          clear hg
          go_wp2_with (first | (go_at_call 70; refine (rin_c _ _).mono ?_; rintro e w' ⟨rfl, rfl⟩) | (go_at_call 80; refine (rtold_c _ _).mono ?_; rintro e w' ⟨rfl, rfl⟩))
          go_ret2
          rw [HY2.out]
          exact ⟨rfl, rfl⟩
        | succ k =>
          have b1 := bitv_pos k
          have b2 := bitv_le k (by omega)
          have b3 := bitv_half k
          have b4 := mul_bd (a := x + bitv (k + 1)) (b := x + bitv (k + 1)) (A := 16777216) (B := 16777216) (by omega) (by omega)
          rw [rootGo_succ] at hg
          have b5 : 2 * bitv k ≤ bitv (k + 1) := by omega
          have B5 := Lib.hid b5
          clear b3 b5
          have hc : bitv (k + 1) = 2 ^ k := rfl
          rw [hc] at hg hx2 b1 b2 b4 B5
          clear hc
          have HG := Lib.hid hg
          clear hg
          have hk1 : ((k + 1 : Nat) : Int) - 1 = (k : Int) := by omega
          rw [hk1]
          clear hk1
          by_cases hc : (x + 2 ^ k) * (x + 2 ^ k) ≤ a * 65536
          · go_wp2
            go_round
            case rel => exact ⟨k, x + 2 ^ k, by omega, rfl, rfl, by omega, by have := B5.out; omega, by have := HG.out; rw [if_pos hc] at this; exact this⟩
            case measure => simp [intOf]
          · go_wp2
            go_round
            case rel => exact ⟨k, x, by omega, rfl, rfl, by omega, by have := B5.out; omega, by have := HG.out; rw [if_neg hc] at this; exact this⟩
            case measure => simp [intOf]
  all_goals
    have e : rootN a up = (0, false) := by simp [rootN, ha, h0]
    rw [e]
    clear e
    go_enter Try.func75, Try.ntmps75
    go_wp2_with (first | (go_at_call 70; (with_reducible refine (rin_c _ _).mono ?_); rintro e w' ⟨rfl, rfl⟩) | (go_at_call 80; (with_reducible refine (rtold_c _ _).mono ?_); rintro e w' ⟨rfl, rfl⟩))
    go_ret2
    exact ⟨rfl, rfl⟩

end Go.Proofs.Ytekhhekkepijoaa

namespace Go.Proofs.Ytekhhekkepijoaa
set_option linter.unusedVariables false
open Go.ChangeShapes Go.WideShapes Go.ChangeAt Go.RowKit

set_option maxHeartbeats 4000000 in
theorem rright_c (a : Iv) (W : World) :
    Calls Try.prog 47 #[ivV a] W fun e w' => e = .returned (.bool (ivRight a)) ∧ More W w' := by
  unfold ivRight
  cases h0 : a.no <;> cases h1 : isIn a.lo <;> cases h2 : isIn a.hi <;> cases h3 : decide (a.lo ≤ a.hi)
  all_goals
    go_enter Try.func47, Try.ntmps47
    go_wp2_with (first | (go_at_call 70; (with_reducible refine (rin_c _ _).mono ?_); rintro e w' ⟨rfl, rfl⟩))
    go_returns
    exact ⟨rfl, (by repeat (first | exact More.refl _ | refine More.alloc ?_ _ | refine More.more ?_ _ | refine More.drew ?_ | refine More.drewN ?_ _))⟩

set_option maxHeartbeats 4000000 in
theorem rnone_c  (W : World) :
    Calls Try.prog 72 #[] W fun e w' => e = .returned (ivV ivNone) ∧ More W w' := by
  go_enter Try.func72, Try.ntmps72
  go_wp2_with fail
  go_returns
  exact ⟨rfl, (by repeat (first | exact More.refl _ | refine More.alloc ?_ _ | refine More.more ?_ _ | refine More.drew ?_ | refine More.drewN ?_ _))⟩

set_option maxHeartbeats 4000000 in
theorem rof_c (a b : Int) (W : World) :
    Calls Try.prog 68 #[.int .i64 a, .int .i64 b] W fun e w' => e = .returned (ivV (ivOf a b)) ∧ More W w' := by
  unfold ivOf
  by_cases h : ivRight ⟨a, b, false⟩ = true
  · rw [if_pos h]
    go_enter Try.func68, Try.ntmps68
    go_wp2_with (first | (go_at_call 47; (with_reducible refine (rright_c _ _).mono ?_); rintro e w' ⟨rfl, r, rfl⟩) | (go_at_call 47; (with_reducible refine (rright_c ⟨_, _, _⟩ _).mono ?_); rintro e w' ⟨rfl, r, rfl⟩) | (go_at_call 72; (with_reducible refine (rnone_c _).mono ?_); rintro e w' ⟨rfl, r, rfl⟩))
    go_returns
    exact ⟨rfl, (by repeat (first | exact More.refl _ | refine More.alloc ?_ _ | refine More.more ?_ _ | refine More.drew ?_ | refine More.drewN ?_ _))⟩
  · rw [if_neg h]
    go_enter Try.func68, Try.ntmps68
    go_wp2_with (first | (go_at_call 47; (with_reducible refine (rright_c _ _).mono ?_); rintro e w' ⟨rfl, r, rfl⟩) | (go_at_call 47; (with_reducible refine (rright_c ⟨_, _, _⟩ _).mono ?_); rintro e w' ⟨rfl, r, rfl⟩) | (go_at_call 72; (with_reducible refine (rnone_c _).mono ?_); rintro e w' ⟨rfl, r, rfl⟩))
    go_returns
    exact ⟨rfl, (by repeat (first | exact More.refl _ | refine More.alloc ?_ _ | refine More.more ?_ _ | refine More.drew ?_ | refine More.drewN ?_ _))⟩

set_option maxHeartbeats 4000000 in
theorem rpoint_c (n : Int) (W : World) :
    Calls Try.prog 45 #[.int .i64 n] W fun e w' => e = .returned (ivV (ivPoint n)) ∧ More W w' := by
  go_enter Try.func45, Try.ntmps45
  go_wp2_with (first | (go_at_call 68; (with_reducible refine (rof_c _ _ _).mono ?_); rintro e w' ⟨rfl, r, rfl⟩))
  go_returns
  exact ⟨rfl, (by repeat (first | exact More.refl _ | refine More.alloc ?_ _ | refine More.more ?_ _ | refine More.drew ?_ | refine More.drewN ?_ _))⟩

set_option maxHeartbeats 4000000 in
theorem radd_c (a b : Iv) (W : World) :
    Calls Try.prog 69 #[ivV a, ivV b] W fun e w' => e = .returned (ivV (ivAdd a b)) ∧ More W w' := by
  unfold ivAdd ivBoth
  cases h0 : ivRight a <;> cases h1 : ivRight b
  case true.true =>
    obtain ⟨⟨b1, b2⟩, ⟨b3, b4⟩, b5⟩ := right_bd h0
    obtain ⟨⟨c1, c2⟩, ⟨c3, c4⟩, c5⟩ := right_bd h1
    go_enter Try.func69, Try.ntmps69
    go_wp2_with (first | (go_at_call 47; (with_reducible refine (rright_c _ _).mono ?_); rintro e w' ⟨rfl, r, rfl⟩) | (go_at_call 47; (with_reducible refine (rright_c ⟨_, _, _⟩ _).mono ?_); rintro e w' ⟨rfl, r, rfl⟩) | (go_at_call 68; (with_reducible refine (rof_c _ _ _).mono ?_); rintro e w' ⟨rfl, r, rfl⟩) | (go_at_call 72; (with_reducible refine (rnone_c _).mono ?_); rintro e w' ⟨rfl, r, rfl⟩))
    go_returns
    exact ⟨rfl, (by repeat (first | exact More.refl _ | refine More.alloc ?_ _ | refine More.more ?_ _ | refine More.drew ?_ | refine More.drewN ?_ _))⟩
  all_goals
    go_enter Try.func69, Try.ntmps69
    go_wp2_with (first | (go_at_call 47; (with_reducible refine (rright_c _ _).mono ?_); rintro e w' ⟨rfl, r, rfl⟩) | (go_at_call 47; (with_reducible refine (rright_c ⟨_, _, _⟩ _).mono ?_); rintro e w' ⟨rfl, r, rfl⟩) | (go_at_call 68; (with_reducible refine (rof_c _ _ _).mono ?_); rintro e w' ⟨rfl, r, rfl⟩) | (go_at_call 72; (with_reducible refine (rnone_c _).mono ?_); rintro e w' ⟨rfl, r, rfl⟩))
    go_returns
    exact ⟨rfl, (by repeat (first | exact More.refl _ | refine More.alloc ?_ _ | refine More.more ?_ _ | refine More.drew ?_ | refine More.drewN ?_ _))⟩

set_option maxHeartbeats 4000000 in
theorem rsub_c (a b : Iv) (W : World) :
    Calls Try.prog 49 #[ivV a, ivV b] W fun e w' => e = .returned (ivV (ivSub a b)) ∧ More W w' := by
  rw [sub_eq]
  unfold ivBoth
  cases h0 : ivRight a <;> cases h1 : ivRight b
  case true.true =>
    obtain ⟨⟨b1, b2⟩, ⟨b3, b4⟩, b5⟩ := right_bd h0
    obtain ⟨⟨c1, c2⟩, ⟨c3, c4⟩, c5⟩ := right_bd h1
    go_enter Try.func49, Try.ntmps49
    go_wp2_with (first | (go_at_call 47; (with_reducible refine (rright_c _ _).mono ?_); rintro e w' ⟨rfl, r, rfl⟩) | (go_at_call 47; (with_reducible refine (rright_c ⟨_, _, _⟩ _).mono ?_); rintro e w' ⟨rfl, r, rfl⟩) | (go_at_call 68; (with_reducible refine (rof_c _ _ _).mono ?_); rintro e w' ⟨rfl, r, rfl⟩) | (go_at_call 72; (with_reducible refine (rnone_c _).mono ?_); rintro e w' ⟨rfl, r, rfl⟩))
    go_returns
    exact ⟨rfl, (by repeat (first | exact More.refl _ | refine More.alloc ?_ _ | refine More.more ?_ _ | refine More.drew ?_ | refine More.drewN ?_ _))⟩
  all_goals
    go_enter Try.func49, Try.ntmps49
    go_wp2_with (first | (go_at_call 47; (with_reducible refine (rright_c _ _).mono ?_); rintro e w' ⟨rfl, r, rfl⟩) | (go_at_call 47; (with_reducible refine (rright_c ⟨_, _, _⟩ _).mono ?_); rintro e w' ⟨rfl, r, rfl⟩) | (go_at_call 68; (with_reducible refine (rof_c _ _ _).mono ?_); rintro e w' ⟨rfl, r, rfl⟩) | (go_at_call 72; (with_reducible refine (rnone_c _).mono ?_); rintro e w' ⟨rfl, r, rfl⟩))
    go_returns
    exact ⟨rfl, (by repeat (first | exact More.refl _ | refine More.alloc ?_ _ | refine More.more ?_ _ | refine More.drew ?_ | refine More.drewN ?_ _))⟩

set_option maxHeartbeats 4000000 in
theorem riroot_c (a : Iv) (W : World) :
    Calls Try.prog 54 #[ivV a] W fun e w' => e = .returned (ivV (ivRoot a)) ∧ More W w' := by
  rw [root_eq]
  by_cases h : ivRight a = true
  · by_cases h0 : a.lo < 0
    · simp only [h, h0]
      go_enter Try.func54, Try.ntmps54
      go_wp2_with (first | (go_at_call 47; (with_reducible refine (rright_c _ _).mono ?_); rintro e w' ⟨rfl, r, rfl⟩) | (go_at_call 47; (with_reducible refine (rright_c ⟨_, _, _⟩ _).mono ?_); rintro e w' ⟨rfl, r, rfl⟩) | (go_at_call 68; (with_reducible refine (rof_c _ _ _).mono ?_); rintro e w' ⟨rfl, r, rfl⟩) | (go_at_call 72; (with_reducible refine (rnone_c _).mono ?_); rintro e w' ⟨rfl, r, rfl⟩) | (go_at_call 75; (with_reducible refine (rroot_c _ _ _).mono ?_); rintro e w' ⟨rfl, rfl⟩))
      go_returns
      exact ⟨rfl, (by repeat (first | exact More.refl _ | refine More.alloc ?_ _ | refine More.more ?_ _ | refine More.drew ?_ | refine More.drewN ?_ _))⟩
    · simp only [h, h0]
      go_enter Try.func54, Try.ntmps54
      go_wp2_with (first | (go_at_call 47; (with_reducible refine (rright_c _ _).mono ?_); rintro e w' ⟨rfl, r, rfl⟩) | (go_at_call 47; (with_reducible refine (rright_c ⟨_, _, _⟩ _).mono ?_); rintro e w' ⟨rfl, r, rfl⟩) | (go_at_call 68; (with_reducible refine (rof_c _ _ _).mono ?_); rintro e w' ⟨rfl, r, rfl⟩) | (go_at_call 72; (with_reducible refine (rnone_c _).mono ?_); rintro e w' ⟨rfl, r, rfl⟩) | (go_at_call 75; (with_reducible refine (rroot_c _ _ _).mono ?_); rintro e w' ⟨rfl, rfl⟩))
      go_returns
      exact ⟨rfl, (by repeat (first | exact More.refl _ | refine More.alloc ?_ _ | refine More.more ?_ _ | refine More.drew ?_ | refine More.drewN ?_ _))⟩
  · simp only [h]
    go_enter Try.func54, Try.ntmps54
    go_wp2_with (first | (go_at_call 47; (with_reducible refine (rright_c _ _).mono ?_); rintro e w' ⟨rfl, r, rfl⟩) | (go_at_call 47; (with_reducible refine (rright_c ⟨_, _, _⟩ _).mono ?_); rintro e w' ⟨rfl, r, rfl⟩) | (go_at_call 68; (with_reducible refine (rof_c _ _ _).mono ?_); rintro e w' ⟨rfl, r, rfl⟩) | (go_at_call 72; (with_reducible refine (rnone_c _).mono ?_); rintro e w' ⟨rfl, r, rfl⟩) | (go_at_call 75; (with_reducible refine (rroot_c _ _ _).mono ?_); rintro e w' ⟨rfl, rfl⟩))
    go_returns
    exact ⟨rfl, (by repeat (first | exact More.refl _ | refine More.alloc ?_ _ | refine More.more ?_ _ | refine More.drew ?_ | refine More.drewN ?_ _))⟩

end Go.Proofs.Ytekhhekkepijoaa

namespace Go.Proofs.Ytekhhekkepijoaa
set_option linter.unusedVariables false
open Go.ChangeShapes Go.WideShapes Go.ChangeAt Go.RowKit

set_option maxHeartbeats 4000000 in
theorem within_c (n a b : Int) (W : World) :
    Calls Try.prog 44 #[.int .i64 n, .int .i64 a, .int .i64 b] W fun e w' => e = .returned (.int .i64 (within n a b)) ∧ W = w' := by
  go_enter Try.func44, Try.ntmps44
  go_wp2_with fail
  go_returns
  exact ⟨rfl, rfl⟩

set_option maxHeartbeats 4000000 in
theorem hwide_c (x w : Int) (h : -1152921504606846976 ≤ w) (h' : w ≤ 1152921504606846976) (W : World) :
    Calls Try.prog 21 #[.int .i64 x, .int .i64 w] W fun e w' => e = .returned (ivV (hWide x w)) ∧ More W w' := by
  have hb := within_bd x (-1073741824) 1073741824 (by omega)
  unfold hWide
  go_enter Try.func21, Try.ntmps21
  go_wp2_with (first | (go_at_call 44; (with_reducible refine (within_c _ _ _ _).mono ?_); rintro e w' ⟨rfl, rfl⟩) | (go_at_call 44; (with_reducible refine (within_c _ _ _ _).mono ?_); rintro e w' ⟨rfl, rfl⟩))
  go_returns
  exact ⟨rfl, (by repeat (first | exact More.refl _ | refine More.alloc ?_ _ | refine More.more ?_ _ | refine More.drew ?_ | refine More.drewN ?_ _))⟩

set_option maxHeartbeats 4000000 in
theorem hin_c (a : Iv) (x y : Int) (hx : -9223372036854775808 ≤ x) (hx' : x ≤ 9223372036854775807) (hy : -9223372036854775808 ≤ y) (hy' : y ≤ 9223372036854775807) (W : World) :
    Calls Try.prog 25 #[ivV a, .int .i64 x, .int .i64 y] W fun e w' => e = .returned (ivV (hIn a x y)) ∧ More W w' := by
  unfold hIn
  by_cases h : ivRight a = true
  · rw [if_pos h]
    have hb := right_bd h
    have h1 := Int.emod_nonneg x (show a.hi - a.lo + 1 ≠ 0 by omega)
    have h2 := Int.emod_lt_of_pos x (show 0 < a.hi - a.lo + 1 by omega)
    have h3 := Int.emod_nonneg y (show a.hi - (a.lo + x % (a.hi - a.lo + 1)) + 1 ≠ 0 by omega)
    have h4 := Int.emod_lt_of_pos y (show 0 < a.hi - (a.lo + x % (a.hi - a.lo + 1)) + 1 by omega)
    obtain ⟨⟨b1, b2⟩, ⟨b3, b4⟩, b5⟩ := hb
    go_enter Try.func25, Try.ntmps25
    go_wp2_with (first | (go_at_call 22; (with_reducible refine (pick_c _ _ (by omega) (by omega) (by omega) (by omega) _).mono ?_); rintro e w' ⟨rfl, rfl⟩) | (go_at_call 47; (with_reducible refine (rright_c _ _).mono ?_); rintro e w' ⟨rfl, r, rfl⟩) | (go_at_call 47; (with_reducible refine (rright_c ⟨_, _, _⟩ _).mono ?_); rintro e w' ⟨rfl, r, rfl⟩) | ((with_reducible show Code.wp _ (Code.region 3 _ true) _ _ _); (with_reducible refine wp_more_quick_m (id := 3) ?_ ?_ ?_); kernel_rfl; kernel_rfl; (try simp only [List.take_succ_cons, List.take_zero, List.drop_succ_cons, List.drop_zero]); (repeat (any_goals (first | go_big_quiet_step ((first | (go_at_call 22; (with_reducible apply quiet_call_same); with_reducible exact pick_c _ _ (by omega) (by omega) (by omega) (by omega) _))) | quiet_step ((first | (go_at_call 22; (with_reducible apply quiet_call_same); with_reducible exact pick_c _ _ (by omega) (by omega) (by omega) (by omega) _)))))); (with_reducible refine wpQuiet_nil ?_); intro r) | ((with_reducible show Code.wp _ (Code.region 3 _ true) _ _ _); (with_reducible refine wp_more_quick (id := 3) ?_ ?_ ?_); kernel_rfl; kernel_rfl; (try simp only [List.take_succ_cons, List.take_zero, List.drop_succ_cons, List.drop_zero]); (repeat (any_goals (first | go_big_quiet_step ((first | (go_at_call 22; (with_reducible apply quiet_call_same); with_reducible exact pick_c _ _ (by omega) (by omega) (by omega) (by omega) _))) | quiet_step ((first | (go_at_call 22; (with_reducible apply quiet_call_same); with_reducible exact pick_c _ _ (by omega) (by omega) (by omega) (by omega) _)))))); (with_reducible refine wpQuiet_nil ?_); intro r))
    go_returns
    exact ⟨rfl, (by repeat (first | exact More.refl _ | refine More.alloc ?_ _ | refine More.more ?_ _ | refine More.drew ?_ | refine More.drewN ?_ _))⟩
  · rw [if_neg h]
    go_enter Try.func25, Try.ntmps25
    go_wp2_with (first | (go_at_call 22; (with_reducible refine (pick_c _ _ (by omega) (by omega) (by omega) (by omega) _).mono ?_); rintro e w' ⟨rfl, rfl⟩) | (go_at_call 47; (with_reducible refine (rright_c _ _).mono ?_); rintro e w' ⟨rfl, r, rfl⟩) | (go_at_call 47; (with_reducible refine (rright_c ⟨_, _, _⟩ _).mono ?_); rintro e w' ⟨rfl, r, rfl⟩) | ((with_reducible show Code.wp _ (Code.region 3 _ true) _ _ _); (with_reducible refine wp_more_quick_m (id := 3) ?_ ?_ ?_); kernel_rfl; kernel_rfl; (try simp only [List.take_succ_cons, List.take_zero, List.drop_succ_cons, List.drop_zero]); (repeat (any_goals (first | go_big_quiet_step ((first | (go_at_call 22; (with_reducible apply quiet_call_same); with_reducible exact pick_c _ _ (by omega) (by omega) (by omega) (by omega) _))) | quiet_step ((first | (go_at_call 22; (with_reducible apply quiet_call_same); with_reducible exact pick_c _ _ (by omega) (by omega) (by omega) (by omega) _)))))); (with_reducible refine wpQuiet_nil ?_); intro r) | ((with_reducible show Code.wp _ (Code.region 3 _ true) _ _ _); (with_reducible refine wp_more_quick (id := 3) ?_ ?_ ?_); kernel_rfl; kernel_rfl; (try simp only [List.take_succ_cons, List.take_zero, List.drop_succ_cons, List.drop_zero]); (repeat (any_goals (first | go_big_quiet_step ((first | (go_at_call 22; (with_reducible apply quiet_call_same); with_reducible exact pick_c _ _ (by omega) (by omega) (by omega) (by omega) _))) | quiet_step ((first | (go_at_call 22; (with_reducible apply quiet_call_same); with_reducible exact pick_c _ _ (by omega) (by omega) (by omega) (by omega) _)))))); (with_reducible refine wpQuiet_nil ?_); intro r))
    go_returns
    exact ⟨rfl, (by repeat (first | exact More.refl _ | refine More.alloc ?_ _ | refine More.more ?_ _ | refine More.drew ?_ | refine More.drewN ?_ _))⟩

set_option maxHeartbeats 4000000 in
theorem hiv_c (n w : Int) (hn : -9223372036854775808 ≤ n) (hn' : n ≤ 9223372036854775807) (hw : -9223372036854775808 ≤ w) (hw' : w ≤ 9223372036854775807) (W : World) :
    Calls Try.prog 20 #[.int .i64 n, .int .i64 w] W fun e w' => e = .returned (ivV (hIv n w)) ∧ More W w' := by
  have d := tdiv_bd w 12 hw hw' (by omega)
  have p0 := Int.emod_nonneg w (show (12 : Int) ≠ 0 by omega)
  have p1 := Int.emod_lt_of_pos w (show (0 : Int) < 12 by omega)
  have q0 := Int.emod_nonneg (w.tdiv 12) (show (9000 : Int) ≠ 0 by omega)
  have q1 := Int.emod_lt_of_pos (w.tdiv 12) (show (0 : Int) < 9000 by omega)
  have e : ∃ y, y = hIv n w := ⟨_, rfl⟩
  obtain ⟨y, hy⟩ := e
  rw [← hy]
  unfold hIv at hy
  by_cases h0 : w % 12 = 0
  · rw [if_pos h0] at hy
    subst hy
    go_enter Try.func20, Try.ntmps20
    go_wp2_with (first | (go_at_call 21; (with_reducible refine (hwide_c _ _ (by omega) (by omega) _).mono ?_); rintro e w' ⟨rfl, r, rfl⟩) | (go_at_call 22; (with_reducible refine (pick_c _ _ (by omega) (by omega) (by omega) (by omega) _).mono ?_); rintro e w' ⟨rfl, rfl⟩) | (go_at_call 43; (with_reducible refine (hnum_c _ (by omega) (by omega) _).mono ?_); rintro e w' ⟨rfl, rfl⟩))
    go_returns
    exact ⟨rfl, (by repeat (first | exact More.refl _ | refine More.alloc ?_ _ | refine More.more ?_ _ | refine More.drew ?_ | refine More.drewN ?_ _))⟩
  · rw [if_neg h0] at hy
    by_cases h1 : w % 12 = 1
    · rw [if_pos h1] at hy
      subst hy
      by_cases h4 : w.tdiv 12 % 5 = 4
      · have h5 : (w.tdiv 12 % 5 == 4) = true := by rw [h4]; rfl
        rw [h5]
        go_enter Try.func20, Try.ntmps20
        go_wp2_with (first | (go_at_call 21; (with_reducible refine (hwide_c _ _ (by omega) (by omega) _).mono ?_); rintro e w' ⟨rfl, r, rfl⟩) | (go_at_call 22; (with_reducible refine (pick_c _ _ (by omega) (by omega) (by omega) (by omega) _).mono ?_); rintro e w' ⟨rfl, rfl⟩) | (go_at_call 43; (with_reducible refine (hnum_c _ (by omega) (by omega) _).mono ?_); rintro e w' ⟨rfl, rfl⟩))
        go_returns
        exact ⟨rfl, (by repeat (first | exact More.refl _ | refine More.alloc ?_ _ | refine More.more ?_ _ | refine More.drew ?_ | refine More.drewN ?_ _))⟩
      · have h5 : (w.tdiv 12 % 5 == 4) = false := by simpa using h4
        rw [h5]
        go_enter Try.func20, Try.ntmps20
        go_wp2_with (first | (go_at_call 21; (with_reducible refine (hwide_c _ _ (by omega) (by omega) _).mono ?_); rintro e w' ⟨rfl, r, rfl⟩) | (go_at_call 22; (with_reducible refine (pick_c _ _ (by omega) (by omega) (by omega) (by omega) _).mono ?_); rintro e w' ⟨rfl, rfl⟩) | (go_at_call 43; (with_reducible refine (hnum_c _ (by omega) (by omega) _).mono ?_); rintro e w' ⟨rfl, rfl⟩))
        go_returns
        exact ⟨rfl, (by repeat (first | exact More.refl _ | refine More.alloc ?_ _ | refine More.more ?_ _ | refine More.drew ?_ | refine More.drewN ?_ _))⟩
    · rw [if_neg h1] at hy
      by_cases h2 : w % 12 = 2 ∨ w % 12 = 3
      · rw [if_pos h2] at hy
        subst hy
        rcases h2 with h2 | h2
        · skip
          go_enter Try.func20, Try.ntmps20
          go_wp2_with (first | (go_at_call 21; (with_reducible refine (hwide_c _ _ (by omega) (by omega) _).mono ?_); rintro e w' ⟨rfl, r, rfl⟩) | (go_at_call 22; (with_reducible refine (pick_c _ _ (by omega) (by omega) (by omega) (by omega) _).mono ?_); rintro e w' ⟨rfl, rfl⟩) | (go_at_call 43; (with_reducible refine (hnum_c _ (by omega) (by omega) _).mono ?_); rintro e w' ⟨rfl, rfl⟩))
          go_returns
          exact ⟨rfl, (by repeat (first | exact More.refl _ | refine More.alloc ?_ _ | refine More.more ?_ _ | refine More.drew ?_ | refine More.drewN ?_ _))⟩
        · skip
          go_enter Try.func20, Try.ntmps20
          go_wp2_with (first | (go_at_call 21; (with_reducible refine (hwide_c _ _ (by omega) (by omega) _).mono ?_); rintro e w' ⟨rfl, r, rfl⟩) | (go_at_call 22; (with_reducible refine (pick_c _ _ (by omega) (by omega) (by omega) (by omega) _).mono ?_); rintro e w' ⟨rfl, rfl⟩) | (go_at_call 43; (with_reducible refine (hnum_c _ (by omega) (by omega) _).mono ?_); rintro e w' ⟨rfl, rfl⟩))
          go_returns
          exact ⟨rfl, (by repeat (first | exact More.refl _ | refine More.alloc ?_ _ | refine More.more ?_ _ | refine More.drew ?_ | refine More.drewN ?_ _))⟩
      · rw [if_neg h2] at hy
        subst hy
        have h3 : ¬ w % 12 = 2 := fun h => h2 (.inl h)
        have h4 : ¬ w % 12 = 3 := fun h => h2 (.inr h)
        clear h2
        go_enter Try.func20, Try.ntmps20
        go_wp2_with (first | (go_at_call 21; (with_reducible refine (hwide_c _ _ (by omega) (by omega) _).mono ?_); rintro e w' ⟨rfl, r, rfl⟩) | (go_at_call 22; (with_reducible refine (pick_c _ _ (by omega) (by omega) (by omega) (by omega) _).mono ?_); rintro e w' ⟨rfl, rfl⟩) | (go_at_call 43; (with_reducible refine (hnum_c _ (by omega) (by omega) _).mono ?_); rintro e w' ⟨rfl, rfl⟩))
        go_returns
        exact ⟨rfl, (by repeat (first | exact More.refl _ | refine More.alloc ?_ _ | refine More.more ?_ _ | refine More.drew ?_ | refine More.drewN ?_ _))⟩

end Go.Proofs.Ytekhhekkepijoaa
