/-
  The contracts of package iv: each call answers what the plain interval of the same name is, and makes no more than memory of its own.
-/
import Derived.Test.YtmhcffpmekbjmaaNum
import Derived.Test.YtmhcffpmekbjmaaReg
import Derived.Test.YtmhcffpmekbjmaaIvMath
namespace Go.Proofs.Ytmhcffpmekbjmaa
set_option linter.unusedVariables false
open Go.ChangeShapes Go.WideShapes Go.ChangeAt Go.RowKit

set_option maxHeartbeats 4000000 in
theorem right_c (a : Iv) (W : World) :
    Calls Try.prog 27 #[ivV a] W fun e w' => e = .returned (.bool (ivRight a)) ∧ More W w' := by
  unfold ivRight
  cases h0 : a.no <;> cases h1 : isIn a.lo <;> cases h2 : isIn a.hi <;> cases h3 : decide (a.lo ≤ a.hi)
  all_goals
    go_enter Try.func27, Try.ntmps27
    go_wp2_with (first | (go_at_call 52; (with_reducible refine (in_c _ _).mono ?_); rintro e w' ⟨rfl, rfl⟩))
    go_returns
    exact ⟨rfl, (by repeat (first | exact More.refl _ | refine More.alloc ?_ _ | refine More.more ?_ _ | refine More.drew ?_ | refine More.drewN ?_ _))⟩

set_option maxHeartbeats 4000000 in
theorem none_c  (W : World) :
    Calls Try.prog 11 #[] W fun e w' => e = .returned (ivV ivNone) ∧ More W w' := by
  go_enter Try.func11, Try.ntmps11
  go_wp2_with fail
  go_returns
  exact ⟨rfl, (by repeat (first | exact More.refl _ | refine More.alloc ?_ _ | refine More.more ?_ _ | refine More.drew ?_ | refine More.drewN ?_ _))⟩

set_option maxHeartbeats 4000000 in
theorem of_c (a b : Int) (W : World) :
    Calls Try.prog 10 #[.int .i64 a, .int .i64 b] W fun e w' => e = .returned (ivV (ivOf a b)) ∧ More W w' := by
  unfold ivOf
  by_cases h : ivRight ⟨a, b, false⟩ = true
  · rw [if_pos h]
    go_enter Try.func10, Try.ntmps10
    go_wp2_with (first | (go_at_call 11; (with_reducible refine (none_c _).mono ?_); rintro e w' ⟨rfl, r, rfl⟩) | (go_at_call 27; (with_reducible refine (right_c _ _).mono ?_); rintro e w' ⟨rfl, r, rfl⟩) | (go_at_call 27; (with_reducible refine (right_c ⟨_, _, _⟩ _).mono ?_); rintro e w' ⟨rfl, r, rfl⟩))
    go_returns
    exact ⟨rfl, (by repeat (first | exact More.refl _ | refine More.alloc ?_ _ | refine More.more ?_ _ | refine More.drew ?_ | refine More.drewN ?_ _))⟩
  · rw [if_neg h]
    go_enter Try.func10, Try.ntmps10
    go_wp2_with (first | (go_at_call 11; (with_reducible refine (none_c _).mono ?_); rintro e w' ⟨rfl, r, rfl⟩) | (go_at_call 27; (with_reducible refine (right_c _ _).mono ?_); rintro e w' ⟨rfl, r, rfl⟩) | (go_at_call 27; (with_reducible refine (right_c ⟨_, _, _⟩ _).mono ?_); rintro e w' ⟨rfl, r, rfl⟩))
    go_returns
    exact ⟨rfl, (by repeat (first | exact More.refl _ | refine More.alloc ?_ _ | refine More.more ?_ _ | refine More.drew ?_ | refine More.drewN ?_ _))⟩

set_option maxHeartbeats 4000000 in
theorem point_c (n : Int) (W : World) :
    Calls Try.prog 14 #[.int .i64 n] W fun e w' => e = .returned (ivV (ivPoint n)) ∧ More W w' := by
  go_enter Try.func14, Try.ntmps14
  go_wp2_with (first | (go_at_call 10; (with_reducible refine (of_c _ _ _).mono ?_); rintro e w' ⟨rfl, r, rfl⟩))
  go_returns
  exact ⟨rfl, (by repeat (first | exact More.refl _ | refine More.alloc ?_ _ | refine More.more ?_ _ | refine More.drew ?_ | refine More.drewN ?_ _))⟩

set_option maxHeartbeats 4000000 in
theorem whole_c (n : Int) (W : World) :
    Calls Try.prog 9 #[.int .i64 n] W fun e w' => e = .returned (ivV (ivWhole n)) ∧ More W w' := by
  unfold ivWhole
  by_cases h : isIn n = true
  · rw [if_pos h]
    have hb := isIn_iff.1 h
    go_enter Try.func9, Try.ntmps9
    go_wp2_with (first | (go_at_call 11; (with_reducible refine (none_c _).mono ?_); rintro e w' ⟨rfl, r, rfl⟩) | (go_at_call 14; (with_reducible refine (point_c _ _).mono ?_); rintro e w' ⟨rfl, r, rfl⟩) | (go_at_call 52; (with_reducible refine (in_c _ _).mono ?_); rintro e w' ⟨rfl, rfl⟩))
    go_returns
    exact ⟨rfl, (by repeat (first | exact More.refl _ | refine More.alloc ?_ _ | refine More.more ?_ _ | refine More.drew ?_ | refine More.drewN ?_ _))⟩
  · rw [if_neg h]
    go_enter Try.func9, Try.ntmps9
    go_wp2_with (first | (go_at_call 11; (with_reducible refine (none_c _).mono ?_); rintro e w' ⟨rfl, r, rfl⟩) | (go_at_call 14; (with_reducible refine (point_c _ _).mono ?_); rintro e w' ⟨rfl, r, rfl⟩) | (go_at_call 52; (with_reducible refine (in_c _ _).mono ?_); rintro e w' ⟨rfl, rfl⟩))
    go_returns
    exact ⟨rfl, (by repeat (first | exact More.refl _ | refine More.alloc ?_ _ | refine More.more ?_ _ | refine More.drew ?_ | refine More.drewN ?_ _))⟩

set_option maxHeartbeats 4000000 in
theorem both_c (a b : Iv) (W : World) :
    Calls Try.prog 53 #[ivV a, ivV b] W fun e w' => e = .returned (.bool (ivBoth a b)) ∧ More W w' := by
  unfold ivBoth
  cases h0 : ivRight a <;> cases h1 : ivRight b
  all_goals
    go_enter Try.func53, Try.ntmps53
    go_wp2_with (first | (go_at_call 27; (with_reducible refine (right_c _ _).mono ?_); rintro e w' ⟨rfl, r, rfl⟩) | (go_at_call 27; (with_reducible refine (right_c ⟨_, _, _⟩ _).mono ?_); rintro e w' ⟨rfl, r, rfl⟩))
    go_returns
    exact ⟨rfl, (by repeat (first | exact More.refl _ | refine More.alloc ?_ _ | refine More.more ?_ _ | refine More.drew ?_ | refine More.drewN ?_ _))⟩

set_option maxHeartbeats 4000000 in
theorem neg_c (a : Iv) (W : World) :
    Calls Try.prog 17 #[ivV a] W fun e w' => e = .returned (ivV (ivNeg a)) ∧ More W w' := by
  unfold ivNeg
  by_cases h : ivRight a = true
  · rw [if_pos h]
    obtain ⟨⟨b1, b2⟩, ⟨b3, b4⟩, b5⟩ := right_bd h
    go_enter Try.func17, Try.ntmps17
    go_wp2_with (first | (go_at_call 10; (with_reducible refine (of_c _ _ _).mono ?_); rintro e w' ⟨rfl, r, rfl⟩) | (go_at_call 11; (with_reducible refine (none_c _).mono ?_); rintro e w' ⟨rfl, r, rfl⟩) | (go_at_call 27; (with_reducible refine (right_c _ _).mono ?_); rintro e w' ⟨rfl, r, rfl⟩) | (go_at_call 27; (with_reducible refine (right_c ⟨_, _, _⟩ _).mono ?_); rintro e w' ⟨rfl, r, rfl⟩))
    go_returns
    exact ⟨rfl, (by repeat (first | exact More.refl _ | refine More.alloc ?_ _ | refine More.more ?_ _ | refine More.drew ?_ | refine More.drewN ?_ _))⟩
  · rw [if_neg h]
    go_enter Try.func17, Try.ntmps17
    go_wp2_with (first | (go_at_call 10; (with_reducible refine (of_c _ _ _).mono ?_); rintro e w' ⟨rfl, r, rfl⟩) | (go_at_call 11; (with_reducible refine (none_c _).mono ?_); rintro e w' ⟨rfl, r, rfl⟩) | (go_at_call 27; (with_reducible refine (right_c _ _).mono ?_); rintro e w' ⟨rfl, r, rfl⟩) | (go_at_call 27; (with_reducible refine (right_c ⟨_, _, _⟩ _).mono ?_); rintro e w' ⟨rfl, r, rfl⟩))
    go_returns
    exact ⟨rfl, (by repeat (first | exact More.refl _ | refine More.alloc ?_ _ | refine More.more ?_ _ | refine More.drew ?_ | refine More.drewN ?_ _))⟩

set_option maxHeartbeats 4000000 in
theorem add_c (a b : Iv) (W : World) :
    Calls Try.prog 15 #[ivV a, ivV b] W fun e w' => e = .returned (ivV (ivAdd a b)) ∧ More W w' := by
  unfold ivAdd
  by_cases h : ivBoth a b = true
  · rw [if_pos h]
    obtain ⟨⟨⟨b1, b2⟩, ⟨b3, b4⟩, b5⟩, ⟨c1, c2⟩, ⟨c3, c4⟩, c5⟩ := both_bd h
    go_enter Try.func15, Try.ntmps15
    go_wp2_with (first | (go_at_call 10; (with_reducible refine (of_c _ _ _).mono ?_); rintro e w' ⟨rfl, r, rfl⟩) | (go_at_call 11; (with_reducible refine (none_c _).mono ?_); rintro e w' ⟨rfl, r, rfl⟩) | (go_at_call 53; (with_reducible refine (both_c _ _ _).mono ?_); rintro e w' ⟨rfl, r, rfl⟩) | (go_at_call 53; (with_reducible refine (both_c ⟨_, _, _⟩ ⟨_, _, _⟩ _).mono ?_); rintro e w' ⟨rfl, r, rfl⟩))
    go_returns
    exact ⟨rfl, (by repeat (first | exact More.refl _ | refine More.alloc ?_ _ | refine More.more ?_ _ | refine More.drew ?_ | refine More.drewN ?_ _))⟩
  · rw [if_neg h]
    go_enter Try.func15, Try.ntmps15
    go_wp2_with (first | (go_at_call 10; (with_reducible refine (of_c _ _ _).mono ?_); rintro e w' ⟨rfl, r, rfl⟩) | (go_at_call 11; (with_reducible refine (none_c _).mono ?_); rintro e w' ⟨rfl, r, rfl⟩) | (go_at_call 53; (with_reducible refine (both_c _ _ _).mono ?_); rintro e w' ⟨rfl, r, rfl⟩) | (go_at_call 53; (with_reducible refine (both_c ⟨_, _, _⟩ ⟨_, _, _⟩ _).mono ?_); rintro e w' ⟨rfl, r, rfl⟩))
    go_returns
    exact ⟨rfl, (by repeat (first | exact More.refl _ | refine More.alloc ?_ _ | refine More.more ?_ _ | refine More.drew ?_ | refine More.drewN ?_ _))⟩

set_option maxHeartbeats 4000000 in
theorem sub_c (a b : Iv) (W : World) :
    Calls Try.prog 16 #[ivV a, ivV b] W fun e w' => e = .returned (ivV (ivSub a b)) ∧ More W w' := by
  go_enter Try.func16, Try.ntmps16
  go_wp2_with (first | (go_at_call 15; (with_reducible refine (add_c _ _ _).mono ?_); rintro e w' ⟨rfl, r, rfl⟩) | (go_at_call 15; (with_reducible refine (add_c ⟨_, _, _⟩ ⟨_, _, _⟩ _).mono ?_); rintro e w' ⟨rfl, r, rfl⟩) | (go_at_call 17; (with_reducible refine (neg_c _ _).mono ?_); rintro e w' ⟨rfl, r, rfl⟩) | (go_at_call 17; (with_reducible refine (neg_c ⟨_, _, _⟩ _).mono ?_); rintro e w' ⟨rfl, r, rfl⟩) | ((with_reducible refine wp_more_tail_m (id := 1) 4 (by kernel_rfl) (by kernel_rfl) ?_); (try simp only [List.take_succ_cons, List.take_zero, List.drop_succ_cons, List.drop_zero]); (repeat (any_goals (first | go_big_quiet_step ((first | (go_at_call 15; with_reducible exact quiet_call (add_c _ _ _)) | (go_at_call 15; with_reducible exact quiet_call (add_c ⟨_, _, _⟩ ⟨_, _, _⟩ _)) | (go_at_call 17; with_reducible exact quiet_call (neg_c _ _)) | (go_at_call 17; with_reducible exact quiet_call (neg_c ⟨_, _, _⟩ _)))) | quiet_step ((first | (go_at_call 15; with_reducible exact quiet_call (add_c _ _ _)) | (go_at_call 15; with_reducible exact quiet_call (add_c ⟨_, _, _⟩ ⟨_, _, _⟩ _)) | (go_at_call 17; with_reducible exact quiet_call (neg_c _ _)) | (go_at_call 17; with_reducible exact quiet_call (neg_c ⟨_, _, _⟩ _))))))); refine wpQuiet_nil ?_; intro r) | ((with_reducible refine wp_more_tail (id := 1) 4 (by kernel_rfl) (by kernel_rfl) ?_); (try simp only [List.take_succ_cons, List.take_zero, List.drop_succ_cons, List.drop_zero]); (repeat (any_goals (first | go_big_quiet_step ((first | (go_at_call 15; with_reducible exact quiet_call (add_c _ _ _)) | (go_at_call 15; with_reducible exact quiet_call (add_c ⟨_, _, _⟩ ⟨_, _, _⟩ _)) | (go_at_call 17; with_reducible exact quiet_call (neg_c _ _)) | (go_at_call 17; with_reducible exact quiet_call (neg_c ⟨_, _, _⟩ _)))) | quiet_step ((first | (go_at_call 15; with_reducible exact quiet_call (add_c _ _ _)) | (go_at_call 15; with_reducible exact quiet_call (add_c ⟨_, _, _⟩ ⟨_, _, _⟩ _)) | (go_at_call 17; with_reducible exact quiet_call (neg_c _ _)) | (go_at_call 17; with_reducible exact quiet_call (neg_c ⟨_, _, _⟩ _))))))); refine wpQuiet_nil ?_; intro r))
  go_returns
  exact ⟨rfl, (by repeat (first | exact More.refl _ | refine More.alloc ?_ _ | refine More.more ?_ _ | refine More.drew ?_ | refine More.drewN ?_ _))⟩

set_option maxHeartbeats 4000000 in
theorem out_c (lo hi : Int) (h0 : -1152921504606846976 ≤ lo ∧ lo ≤ 1152921504606846976) (h1 : -1152921504606846976 ≤ hi ∧ hi ≤ 1152921504606846976) (W : World) :
    Calls Try.prog 54 #[.int .i64 lo, .int .i64 hi] W fun e w' => e = .returned (ivV (ivOut lo hi)) ∧ More W w' := by
  have e1 := fdiv_abs (-hi) 65536
  have e2 : -1152921504606846976 ≤ (-hi).fdiv 65536 ∧ (-hi).fdiv 65536 ≤ 1152921504606846976 := by omega
  clear e1
  go_enter Try.func54, Try.ntmps54
  go_wp2_with (first | (go_at_call 10; (with_reducible refine (of_c _ _ _).mono ?_); rintro e w' ⟨rfl, r, rfl⟩) | (go_at_call 57; (with_reducible refine (floor_c _ _ (by omega) (by omega) (by omega) _).mono ?_); rintro e w' ⟨rfl, rfl⟩))
  go_returns
  exact ⟨rfl, (by repeat (first | exact More.refl _ | refine More.alloc ?_ _ | refine More.more ?_ _ | refine More.drew ?_ | refine More.drewN ?_ _))⟩

set_option maxHeartbeats 4000000 in
theorem mul_iv_c (a b : Iv) (W : World) :
    Calls Try.prog 37 #[ivV a, ivV b] W fun e w' => e = .returned (ivV (ivMul a b)) ∧ More W w' := by
  unfold ivMul
  by_cases h : ivBoth a b = true
  · rw [if_pos h]
    have p1 := prod_in h a.lo b.lo (.inl rfl) (.inl rfl)
    have p2 := prod_in h a.lo b.hi (.inl rfl) (.inr rfl)
    have p3 := prod_in h a.hi b.lo (.inr rfl) (.inl rfl)
    have p4 := prod_in h a.hi b.hi (.inr rfl) (.inr rfl)
    go_enter Try.func37, Try.ntmps37
    go_wp2_with (first | (go_at_call 11; (with_reducible refine (none_c _).mono ?_); rintro e w' ⟨rfl, r, rfl⟩) | (go_at_call 53; (with_reducible refine (both_c _ _ _).mono ?_); rintro e w' ⟨rfl, r, rfl⟩) | (go_at_call 53; (with_reducible refine (both_c ⟨_, _, _⟩ ⟨_, _, _⟩ _).mono ?_); rintro e w' ⟨rfl, r, rfl⟩) | (go_at_call 54; (with_reducible refine (out_c _ _ (by omega) (by omega) _).mono ?_); rintro e w' ⟨rfl, r, rfl⟩) | ((with_reducible refine wp_more_lit_m (id := 3) (by kernel_rfl) (by kernel_rfl) ?_); (try simp only [List.take_succ_cons, List.take_zero, List.drop_succ_cons, List.drop_zero]); (repeat (any_goals (first | go_big_quiet_step ((first | (go_at_call 11; with_reducible exact quiet_call (none_c _)) | (go_at_call 53; with_reducible exact quiet_call (both_c _ _ _)) | (go_at_call 53; with_reducible exact quiet_call (both_c ⟨_, _, _⟩ ⟨_, _, _⟩ _)) | (go_at_call 54; with_reducible exact quiet_call (out_c _ _ (by omega) (by omega) _)))) | quiet_step ((first | (go_at_call 11; with_reducible exact quiet_call (none_c _)) | (go_at_call 53; with_reducible exact quiet_call (both_c _ _ _)) | (go_at_call 53; with_reducible exact quiet_call (both_c ⟨_, _, _⟩ ⟨_, _, _⟩ _)) | (go_at_call 54; with_reducible exact quiet_call (out_c _ _ (by omega) (by omega) _))))))); refine wpQuiet_nil ?_; intro r) | ((with_reducible refine wp_more_lit (id := 3) (by kernel_rfl) (by kernel_rfl) ?_); (try simp only [List.take_succ_cons, List.take_zero, List.drop_succ_cons, List.drop_zero]); (repeat (any_goals (first | go_big_quiet_step ((first | (go_at_call 11; with_reducible exact quiet_call (none_c _)) | (go_at_call 53; with_reducible exact quiet_call (both_c _ _ _)) | (go_at_call 53; with_reducible exact quiet_call (both_c ⟨_, _, _⟩ ⟨_, _, _⟩ _)) | (go_at_call 54; with_reducible exact quiet_call (out_c _ _ (by omega) (by omega) _)))) | quiet_step ((first | (go_at_call 11; with_reducible exact quiet_call (none_c _)) | (go_at_call 53; with_reducible exact quiet_call (both_c _ _ _)) | (go_at_call 53; with_reducible exact quiet_call (both_c ⟨_, _, _⟩ ⟨_, _, _⟩ _)) | (go_at_call 54; with_reducible exact quiet_call (out_c _ _ (by omega) (by omega) _))))))); refine wpQuiet_nil ?_; intro r))
    go_returns
    exact ⟨rfl, (by repeat (first | exact More.refl _ | refine More.alloc ?_ _ | refine More.more ?_ _ | refine More.drew ?_ | refine More.drewN ?_ _))⟩
  · rw [if_neg h]
    go_enter Try.func37, Try.ntmps37
    go_wp2_with (first | (go_at_call 11; (with_reducible refine (none_c _).mono ?_); rintro e w' ⟨rfl, r, rfl⟩) | (go_at_call 53; (with_reducible refine (both_c _ _ _).mono ?_); rintro e w' ⟨rfl, r, rfl⟩) | (go_at_call 53; (with_reducible refine (both_c ⟨_, _, _⟩ ⟨_, _, _⟩ _).mono ?_); rintro e w' ⟨rfl, r, rfl⟩) | (go_at_call 54; (with_reducible refine (out_c _ _ (by omega) (by omega) _).mono ?_); rintro e w' ⟨rfl, r, rfl⟩) | ((with_reducible refine wp_more_lit_m (id := 3) (by kernel_rfl) (by kernel_rfl) ?_); (try simp only [List.take_succ_cons, List.take_zero, List.drop_succ_cons, List.drop_zero]); (repeat (any_goals (first | go_big_quiet_step ((first | (go_at_call 11; with_reducible exact quiet_call (none_c _)) | (go_at_call 53; with_reducible exact quiet_call (both_c _ _ _)) | (go_at_call 53; with_reducible exact quiet_call (both_c ⟨_, _, _⟩ ⟨_, _, _⟩ _)) | (go_at_call 54; with_reducible exact quiet_call (out_c _ _ (by omega) (by omega) _)))) | quiet_step ((first | (go_at_call 11; with_reducible exact quiet_call (none_c _)) | (go_at_call 53; with_reducible exact quiet_call (both_c _ _ _)) | (go_at_call 53; with_reducible exact quiet_call (both_c ⟨_, _, _⟩ ⟨_, _, _⟩ _)) | (go_at_call 54; with_reducible exact quiet_call (out_c _ _ (by omega) (by omega) _))))))); refine wpQuiet_nil ?_; intro r) | ((with_reducible refine wp_more_lit (id := 3) (by kernel_rfl) (by kernel_rfl) ?_); (try simp only [List.take_succ_cons, List.take_zero, List.drop_succ_cons, List.drop_zero]); (repeat (any_goals (first | go_big_quiet_step ((first | (go_at_call 11; with_reducible exact quiet_call (none_c _)) | (go_at_call 53; with_reducible exact quiet_call (both_c _ _ _)) | (go_at_call 53; with_reducible exact quiet_call (both_c ⟨_, _, _⟩ ⟨_, _, _⟩ _)) | (go_at_call 54; with_reducible exact quiet_call (out_c _ _ (by omega) (by omega) _)))) | quiet_step ((first | (go_at_call 11; with_reducible exact quiet_call (none_c _)) | (go_at_call 53; with_reducible exact quiet_call (both_c _ _ _)) | (go_at_call 53; with_reducible exact quiet_call (both_c ⟨_, _, _⟩ ⟨_, _, _⟩ _)) | (go_at_call 54; with_reducible exact quiet_call (out_c _ _ (by omega) (by omega) _))))))); refine wpQuiet_nil ?_; intro r))
    go_returns
    exact ⟨rfl, (by repeat (first | exact More.refl _ | refine More.alloc ?_ _ | refine More.more ?_ _ | refine More.drew ?_ | refine More.drewN ?_ _))⟩

set_option maxHeartbeats 4000000 in
theorem times_c (a : Iv) (k : Int) (W : World) :
    Calls Try.prog 18 #[ivV a, .int .i64 k] W fun e w' => e = .returned (ivV (ivTimes a k)) ∧ More W w' := by
  unfold ivTimes
  by_cases h : ivRight a = true
  · by_cases h1 : isIn k = true
    · rw [h, h1]
      obtain ⟨⟨b1, b2⟩, ⟨b3, b4⟩, b5⟩ := right_bd h
      have p1 := mul_bd (A := 1073741824) (B := 1073741824) (isIn_iff.1 h1) ⟨b1, b2⟩
      have p2 := mul_bd (A := 1073741824) (B := 1073741824) (isIn_iff.1 h1) ⟨b3, b4⟩
      go_enter Try.func18, Try.ntmps18
      go_wp2_with (first | (go_at_call 10; (with_reducible refine (of_c _ _ _).mono ?_); rintro e w' ⟨rfl, r, rfl⟩) | (go_at_call 11; (with_reducible refine (none_c _).mono ?_); rintro e w' ⟨rfl, r, rfl⟩) | (go_at_call 27; (with_reducible refine (right_c _ _).mono ?_); rintro e w' ⟨rfl, r, rfl⟩) | (go_at_call 27; (with_reducible refine (right_c ⟨_, _, _⟩ _).mono ?_); rintro e w' ⟨rfl, r, rfl⟩) | (go_at_call 52; (with_reducible refine (in_c _ _).mono ?_); rintro e w' ⟨rfl, rfl⟩))
      go_returns
      exact ⟨rfl, (by repeat (first | exact More.refl _ | refine More.alloc ?_ _ | refine More.more ?_ _ | refine More.drew ?_ | refine More.drewN ?_ _))⟩
    · simp only [h, h1]
      go_enter Try.func18, Try.ntmps18
      go_wp2_with (first | (go_at_call 10; (with_reducible refine (of_c _ _ _).mono ?_); rintro e w' ⟨rfl, r, rfl⟩) | (go_at_call 11; (with_reducible refine (none_c _).mono ?_); rintro e w' ⟨rfl, r, rfl⟩) | (go_at_call 27; (with_reducible refine (right_c _ _).mono ?_); rintro e w' ⟨rfl, r, rfl⟩) | (go_at_call 27; (with_reducible refine (right_c ⟨_, _, _⟩ _).mono ?_); rintro e w' ⟨rfl, r, rfl⟩) | (go_at_call 52; (with_reducible refine (in_c _ _).mono ?_); rintro e w' ⟨rfl, rfl⟩))
      go_returns
      exact ⟨rfl, (by repeat (first | exact More.refl _ | refine More.alloc ?_ _ | refine More.more ?_ _ | refine More.drew ?_ | refine More.drewN ?_ _))⟩
  · simp only [h]
    go_enter Try.func18, Try.ntmps18
    go_wp2_with (first | (go_at_call 10; (with_reducible refine (of_c _ _ _).mono ?_); rintro e w' ⟨rfl, r, rfl⟩) | (go_at_call 11; (with_reducible refine (none_c _).mono ?_); rintro e w' ⟨rfl, r, rfl⟩) | (go_at_call 27; (with_reducible refine (right_c _ _).mono ?_); rintro e w' ⟨rfl, r, rfl⟩) | (go_at_call 27; (with_reducible refine (right_c ⟨_, _, _⟩ _).mono ?_); rintro e w' ⟨rfl, r, rfl⟩) | (go_at_call 52; (with_reducible refine (in_c _ _).mono ?_); rintro e w' ⟨rfl, rfl⟩))
    go_returns
    exact ⟨rfl, (by repeat (first | exact More.refl _ | refine More.alloc ?_ _ | refine More.more ?_ _ | refine More.drew ?_ | refine More.drewN ?_ _))⟩

set_option maxHeartbeats 4000000 in
theorem has_c (a : Iv) (n : Int) (W : World) :
    Calls Try.prog 25 #[ivV a, .int .i64 n] W fun e w' => e = .returned (.bool (ivHas a n)) ∧ More W w' := by
  unfold ivHas
  cases h0 : ivRight a <;> cases h1 : decide (a.lo ≤ n) <;> cases h2 : decide (n ≤ a.hi)
  all_goals
    go_enter Try.func25, Try.ntmps25
    go_wp2_with (first | (go_at_call 27; (with_reducible refine (right_c _ _).mono ?_); rintro e w' ⟨rfl, r, rfl⟩) | (go_at_call 27; (with_reducible refine (right_c ⟨_, _, _⟩ _).mono ?_); rintro e w' ⟨rfl, r, rfl⟩))
    go_returns
    exact ⟨rfl, (by repeat (first | exact More.refl _ | refine More.alloc ?_ _ | refine More.more ?_ _ | refine More.drew ?_ | refine More.drewN ?_ _))⟩

set_option maxHeartbeats 4000000 in
theorem inside_c (a b : Iv) (W : World) :
    Calls Try.prog 26 #[ivV a, ivV b] W fun e w' => e = .returned (.bool (ivInside a b)) ∧ More W w' := by
  unfold ivInside
  cases h0 : ivBoth a b <;> cases h1 : decide (b.lo ≤ a.lo) <;> cases h2 : decide (a.hi ≤ b.hi)
  all_goals
    go_enter Try.func26, Try.ntmps26
    go_wp2_with (first | (go_at_call 53; (with_reducible refine (both_c _ _ _).mono ?_); rintro e w' ⟨rfl, r, rfl⟩) | (go_at_call 53; (with_reducible refine (both_c ⟨_, _, _⟩ ⟨_, _, _⟩ _).mono ?_); rintro e w' ⟨rfl, r, rfl⟩))
    go_returns
    exact ⟨rfl, (by repeat (first | exact More.refl _ | refine More.alloc ?_ _ | refine More.more ?_ _ | refine More.drew ?_ | refine More.drewN ?_ _))⟩

set_option maxHeartbeats 4000000 in
theorem sqr_c (a : Iv) (W : World) :
    Calls Try.prog 19 #[ivV a] W fun e w' => e = .returned (ivV (ivSqr a)) ∧ More W w' := by
  unfold ivSqr
  by_cases h : ivRight a = true
  · rw [if_pos h]
    obtain ⟨⟨b1, b2⟩, ⟨b3, b4⟩, b5⟩ := right_bd h
    have p1 := mul_bd (A := 1073741824) (B := 1073741824) ⟨b1, b2⟩ ⟨b1, b2⟩
    have p2 := mul_bd (A := 1073741824) (B := 1073741824) ⟨b3, b4⟩ ⟨b3, b4⟩
    by_cases h2 : ivHas a 0 = true
    · rw [if_pos h2]
      go_enter Try.func19, Try.ntmps19
      go_wp2_with (first | (go_at_call 11; (with_reducible refine (none_c _).mono ?_); rintro e w' ⟨rfl, r, rfl⟩) | (go_at_call 25; (with_reducible refine (has_c _ _ _).mono ?_); rintro e w' ⟨rfl, r, rfl⟩) | (go_at_call 25; (with_reducible refine (has_c ⟨_, _, _⟩ _ _).mono ?_); rintro e w' ⟨rfl, r, rfl⟩) | (go_at_call 27; (with_reducible refine (right_c _ _).mono ?_); rintro e w' ⟨rfl, r, rfl⟩) | (go_at_call 27; (with_reducible refine (right_c ⟨_, _, _⟩ _).mono ?_); rintro e w' ⟨rfl, r, rfl⟩) | (go_at_call 54; (with_reducible refine (out_c _ _ (by omega) (by omega) _).mono ?_); rintro e w' ⟨rfl, r, rfl⟩) | ((with_reducible refine wp_more_lit_m (id := 3) (by kernel_rfl) (by kernel_rfl) ?_); (try simp only [List.take_succ_cons, List.take_zero, List.drop_succ_cons, List.drop_zero]); (repeat (any_goals (first | go_big_quiet_step ((first | (go_at_call 11; with_reducible exact quiet_call (none_c _)) | (go_at_call 25; with_reducible exact quiet_call (has_c _ _ _)) | (go_at_call 25; with_reducible exact quiet_call (has_c ⟨_, _, _⟩ _ _)) | (go_at_call 27; with_reducible exact quiet_call (right_c _ _)) | (go_at_call 27; with_reducible exact quiet_call (right_c ⟨_, _, _⟩ _)) | (go_at_call 54; with_reducible exact quiet_call (out_c _ _ (by omega) (by omega) _)))) | quiet_step ((first | (go_at_call 11; with_reducible exact quiet_call (none_c _)) | (go_at_call 25; with_reducible exact quiet_call (has_c _ _ _)) | (go_at_call 25; with_reducible exact quiet_call (has_c ⟨_, _, _⟩ _ _)) | (go_at_call 27; with_reducible exact quiet_call (right_c _ _)) | (go_at_call 27; with_reducible exact quiet_call (right_c ⟨_, _, _⟩ _)) | (go_at_call 54; with_reducible exact quiet_call (out_c _ _ (by omega) (by omega) _))))))); refine wpQuiet_nil ?_; intro r) | ((with_reducible refine wp_more_lit (id := 3) (by kernel_rfl) (by kernel_rfl) ?_); (try simp only [List.take_succ_cons, List.take_zero, List.drop_succ_cons, List.drop_zero]); (repeat (any_goals (first | go_big_quiet_step ((first | (go_at_call 11; with_reducible exact quiet_call (none_c _)) | (go_at_call 25; with_reducible exact quiet_call (has_c _ _ _)) | (go_at_call 25; with_reducible exact quiet_call (has_c ⟨_, _, _⟩ _ _)) | (go_at_call 27; with_reducible exact quiet_call (right_c _ _)) | (go_at_call 27; with_reducible exact quiet_call (right_c ⟨_, _, _⟩ _)) | (go_at_call 54; with_reducible exact quiet_call (out_c _ _ (by omega) (by omega) _)))) | quiet_step ((first | (go_at_call 11; with_reducible exact quiet_call (none_c _)) | (go_at_call 25; with_reducible exact quiet_call (has_c _ _ _)) | (go_at_call 25; with_reducible exact quiet_call (has_c ⟨_, _, _⟩ _ _)) | (go_at_call 27; with_reducible exact quiet_call (right_c _ _)) | (go_at_call 27; with_reducible exact quiet_call (right_c ⟨_, _, _⟩ _)) | (go_at_call 54; with_reducible exact quiet_call (out_c _ _ (by omega) (by omega) _))))))); refine wpQuiet_nil ?_; intro r))
      go_returns
      exact ⟨rfl, (by repeat (first | exact More.refl _ | refine More.alloc ?_ _ | refine More.more ?_ _ | refine More.drew ?_ | refine More.drewN ?_ _))⟩
    · rw [if_neg h2]
      go_enter Try.func19, Try.ntmps19
      go_wp2_with (first | (go_at_call 11; (with_reducible refine (none_c _).mono ?_); rintro e w' ⟨rfl, r, rfl⟩) | (go_at_call 25; (with_reducible refine (has_c _ _ _).mono ?_); rintro e w' ⟨rfl, r, rfl⟩) | (go_at_call 25; (with_reducible refine (has_c ⟨_, _, _⟩ _ _).mono ?_); rintro e w' ⟨rfl, r, rfl⟩) | (go_at_call 27; (with_reducible refine (right_c _ _).mono ?_); rintro e w' ⟨rfl, r, rfl⟩) | (go_at_call 27; (with_reducible refine (right_c ⟨_, _, _⟩ _).mono ?_); rintro e w' ⟨rfl, r, rfl⟩) | (go_at_call 54; (with_reducible refine (out_c _ _ (by omega) (by omega) _).mono ?_); rintro e w' ⟨rfl, r, rfl⟩) | ((with_reducible refine wp_more_lit_m (id := 3) (by kernel_rfl) (by kernel_rfl) ?_); (try simp only [List.take_succ_cons, List.take_zero, List.drop_succ_cons, List.drop_zero]); (repeat (any_goals (first | go_big_quiet_step ((first | (go_at_call 11; with_reducible exact quiet_call (none_c _)) | (go_at_call 25; with_reducible exact quiet_call (has_c _ _ _)) | (go_at_call 25; with_reducible exact quiet_call (has_c ⟨_, _, _⟩ _ _)) | (go_at_call 27; with_reducible exact quiet_call (right_c _ _)) | (go_at_call 27; with_reducible exact quiet_call (right_c ⟨_, _, _⟩ _)) | (go_at_call 54; with_reducible exact quiet_call (out_c _ _ (by omega) (by omega) _)))) | quiet_step ((first | (go_at_call 11; with_reducible exact quiet_call (none_c _)) | (go_at_call 25; with_reducible exact quiet_call (has_c _ _ _)) | (go_at_call 25; with_reducible exact quiet_call (has_c ⟨_, _, _⟩ _ _)) | (go_at_call 27; with_reducible exact quiet_call (right_c _ _)) | (go_at_call 27; with_reducible exact quiet_call (right_c ⟨_, _, _⟩ _)) | (go_at_call 54; with_reducible exact quiet_call (out_c _ _ (by omega) (by omega) _))))))); refine wpQuiet_nil ?_; intro r) | ((with_reducible refine wp_more_lit (id := 3) (by kernel_rfl) (by kernel_rfl) ?_); (try simp only [List.take_succ_cons, List.take_zero, List.drop_succ_cons, List.drop_zero]); (repeat (any_goals (first | go_big_quiet_step ((first | (go_at_call 11; with_reducible exact quiet_call (none_c _)) | (go_at_call 25; with_reducible exact quiet_call (has_c _ _ _)) | (go_at_call 25; with_reducible exact quiet_call (has_c ⟨_, _, _⟩ _ _)) | (go_at_call 27; with_reducible exact quiet_call (right_c _ _)) | (go_at_call 27; with_reducible exact quiet_call (right_c ⟨_, _, _⟩ _)) | (go_at_call 54; with_reducible exact quiet_call (out_c _ _ (by omega) (by omega) _)))) | quiet_step ((first | (go_at_call 11; with_reducible exact quiet_call (none_c _)) | (go_at_call 25; with_reducible exact quiet_call (has_c _ _ _)) | (go_at_call 25; with_reducible exact quiet_call (has_c ⟨_, _, _⟩ _ _)) | (go_at_call 27; with_reducible exact quiet_call (right_c _ _)) | (go_at_call 27; with_reducible exact quiet_call (right_c ⟨_, _, _⟩ _)) | (go_at_call 54; with_reducible exact quiet_call (out_c _ _ (by omega) (by omega) _))))))); refine wpQuiet_nil ?_; intro r))
      go_returns
      exact ⟨rfl, (by repeat (first | exact More.refl _ | refine More.alloc ?_ _ | refine More.more ?_ _ | refine More.drew ?_ | refine More.drewN ?_ _))⟩
  · rw [if_neg h]
    go_enter Try.func19, Try.ntmps19
    go_wp2_with (first | (go_at_call 11; (with_reducible refine (none_c _).mono ?_); rintro e w' ⟨rfl, r, rfl⟩) | (go_at_call 25; (with_reducible refine (has_c _ _ _).mono ?_); rintro e w' ⟨rfl, r, rfl⟩) | (go_at_call 25; (with_reducible refine (has_c ⟨_, _, _⟩ _ _).mono ?_); rintro e w' ⟨rfl, r, rfl⟩) | (go_at_call 27; (with_reducible refine (right_c _ _).mono ?_); rintro e w' ⟨rfl, r, rfl⟩) | (go_at_call 27; (with_reducible refine (right_c ⟨_, _, _⟩ _).mono ?_); rintro e w' ⟨rfl, r, rfl⟩) | (go_at_call 54; (with_reducible refine (out_c _ _ (by omega) (by omega) _).mono ?_); rintro e w' ⟨rfl, r, rfl⟩) | ((with_reducible refine wp_more_lit_m (id := 3) (by kernel_rfl) (by kernel_rfl) ?_); (try simp only [List.take_succ_cons, List.take_zero, List.drop_succ_cons, List.drop_zero]); (repeat (any_goals (first | go_big_quiet_step ((first | (go_at_call 11; with_reducible exact quiet_call (none_c _)) | (go_at_call 25; with_reducible exact quiet_call (has_c _ _ _)) | (go_at_call 25; with_reducible exact quiet_call (has_c ⟨_, _, _⟩ _ _)) | (go_at_call 27; with_reducible exact quiet_call (right_c _ _)) | (go_at_call 27; with_reducible exact quiet_call (right_c ⟨_, _, _⟩ _)) | (go_at_call 54; with_reducible exact quiet_call (out_c _ _ (by omega) (by omega) _)))) | quiet_step ((first | (go_at_call 11; with_reducible exact quiet_call (none_c _)) | (go_at_call 25; with_reducible exact quiet_call (has_c _ _ _)) | (go_at_call 25; with_reducible exact quiet_call (has_c ⟨_, _, _⟩ _ _)) | (go_at_call 27; with_reducible exact quiet_call (right_c _ _)) | (go_at_call 27; with_reducible exact quiet_call (right_c ⟨_, _, _⟩ _)) | (go_at_call 54; with_reducible exact quiet_call (out_c _ _ (by omega) (by omega) _))))))); refine wpQuiet_nil ?_; intro r) | ((with_reducible refine wp_more_lit (id := 3) (by kernel_rfl) (by kernel_rfl) ?_); (try simp only [List.take_succ_cons, List.take_zero, List.drop_succ_cons, List.drop_zero]); (repeat (any_goals (first | go_big_quiet_step ((first | (go_at_call 11; with_reducible exact quiet_call (none_c _)) | (go_at_call 25; with_reducible exact quiet_call (has_c _ _ _)) | (go_at_call 25; with_reducible exact quiet_call (has_c ⟨_, _, _⟩ _ _)) | (go_at_call 27; with_reducible exact quiet_call (right_c _ _)) | (go_at_call 27; with_reducible exact quiet_call (right_c ⟨_, _, _⟩ _)) | (go_at_call 54; with_reducible exact quiet_call (out_c _ _ (by omega) (by omega) _)))) | quiet_step ((first | (go_at_call 11; with_reducible exact quiet_call (none_c _)) | (go_at_call 25; with_reducible exact quiet_call (has_c _ _ _)) | (go_at_call 25; with_reducible exact quiet_call (has_c ⟨_, _, _⟩ _ _)) | (go_at_call 27; with_reducible exact quiet_call (right_c _ _)) | (go_at_call 27; with_reducible exact quiet_call (right_c ⟨_, _, _⟩ _)) | (go_at_call 54; with_reducible exact quiet_call (out_c _ _ (by omega) (by omega) _))))))); refine wpQuiet_nil ?_; intro r))
    go_returns
    exact ⟨rfl, (by repeat (first | exact More.refl _ | refine More.alloc ?_ _ | refine More.more ?_ _ | refine More.drew ?_ | refine More.drewN ?_ _))⟩

set_option maxHeartbeats 4000000 in
theorem hull_c (a b : Iv) (W : World) :
    Calls Try.prog 22 #[ivV a, ivV b] W fun e w' => e = .returned (ivV (ivHull a b)) ∧ More W w' := by
  unfold ivHull
  by_cases h : ivBoth a b = true
  · rw [if_pos h]
    go_enter Try.func22, Try.ntmps22
    go_wp2_with (first | (go_at_call 10; (with_reducible refine (of_c _ _ _).mono ?_); rintro e w' ⟨rfl, r, rfl⟩) | (go_at_call 11; (with_reducible refine (none_c _).mono ?_); rintro e w' ⟨rfl, r, rfl⟩) | (go_at_call 53; (with_reducible refine (both_c _ _ _).mono ?_); rintro e w' ⟨rfl, r, rfl⟩) | (go_at_call 53; (with_reducible refine (both_c ⟨_, _, _⟩ ⟨_, _, _⟩ _).mono ?_); rintro e w' ⟨rfl, r, rfl⟩))
    go_returns
    exact ⟨rfl, (by repeat (first | exact More.refl _ | refine More.alloc ?_ _ | refine More.more ?_ _ | refine More.drew ?_ | refine More.drewN ?_ _))⟩
  · rw [if_neg h]
    go_enter Try.func22, Try.ntmps22
    go_wp2_with (first | (go_at_call 10; (with_reducible refine (of_c _ _ _).mono ?_); rintro e w' ⟨rfl, r, rfl⟩) | (go_at_call 11; (with_reducible refine (none_c _).mono ?_); rintro e w' ⟨rfl, r, rfl⟩) | (go_at_call 53; (with_reducible refine (both_c _ _ _).mono ?_); rintro e w' ⟨rfl, r, rfl⟩) | (go_at_call 53; (with_reducible refine (both_c ⟨_, _, _⟩ ⟨_, _, _⟩ _).mono ?_); rintro e w' ⟨rfl, r, rfl⟩))
    go_returns
    exact ⟨rfl, (by repeat (first | exact More.refl _ | refine More.alloc ?_ _ | refine More.more ?_ _ | refine More.drew ?_ | refine More.drewN ?_ _))⟩

set_option maxHeartbeats 4000000 in
theorem meet_c (a b : Iv) (W : World) :
    Calls Try.prog 23 #[ivV a, ivV b] W fun e w' => e = .returned (ivV (ivMeet a b)) ∧ More W w' := by
  unfold ivMeet
  by_cases h : ivBoth a b = true
  · rw [if_pos h]
    go_enter Try.func23, Try.ntmps23
    go_wp2_with (first | (go_at_call 10; (with_reducible refine (of_c _ _ _).mono ?_); rintro e w' ⟨rfl, r, rfl⟩) | (go_at_call 11; (with_reducible refine (none_c _).mono ?_); rintro e w' ⟨rfl, r, rfl⟩) | (go_at_call 53; (with_reducible refine (both_c _ _ _).mono ?_); rintro e w' ⟨rfl, r, rfl⟩) | (go_at_call 53; (with_reducible refine (both_c ⟨_, _, _⟩ ⟨_, _, _⟩ _).mono ?_); rintro e w' ⟨rfl, r, rfl⟩))
    go_returns
    exact ⟨rfl, (by repeat (first | exact More.refl _ | refine More.alloc ?_ _ | refine More.more ?_ _ | refine More.drew ?_ | refine More.drewN ?_ _))⟩
  · rw [if_neg h]
    go_enter Try.func23, Try.ntmps23
    go_wp2_with (first | (go_at_call 10; (with_reducible refine (of_c _ _ _).mono ?_); rintro e w' ⟨rfl, r, rfl⟩) | (go_at_call 11; (with_reducible refine (none_c _).mono ?_); rintro e w' ⟨rfl, r, rfl⟩) | (go_at_call 53; (with_reducible refine (both_c _ _ _).mono ?_); rintro e w' ⟨rfl, r, rfl⟩) | (go_at_call 53; (with_reducible refine (both_c ⟨_, _, _⟩ ⟨_, _, _⟩ _).mono ?_); rintro e w' ⟨rfl, r, rfl⟩))
    go_returns
    exact ⟨rfl, (by repeat (first | exact More.refl _ | refine More.alloc ?_ _ | refine More.more ?_ _ | refine More.drew ?_ | refine More.drewN ?_ _))⟩

set_option maxHeartbeats 4000000 in
theorem mid_c (a : Iv) (W : World) :
    Calls Try.prog 24 #[ivV a] W fun e w' => e = .returned (.int .i64 (ivMid a)) ∧ More W w' := by
  unfold ivMid
  by_cases h : ivRight a = true
  · rw [if_pos h]
    obtain ⟨⟨b1, b2⟩, ⟨b3, b4⟩, b5⟩ := right_bd h
    go_enter Try.func24, Try.ntmps24
    go_wp2_with (first | (go_at_call 27; (with_reducible refine (right_c _ _).mono ?_); rintro e w' ⟨rfl, r, rfl⟩) | (go_at_call 27; (with_reducible refine (right_c ⟨_, _, _⟩ _).mono ?_); rintro e w' ⟨rfl, r, rfl⟩) | (go_at_call 57; (with_reducible refine (floor_c _ _ (by omega) (by omega) (by omega) _).mono ?_); rintro e w' ⟨rfl, rfl⟩))
    go_returns
    exact ⟨rfl, (by repeat (first | exact More.refl _ | refine More.alloc ?_ _ | refine More.more ?_ _ | refine More.drew ?_ | refine More.drewN ?_ _))⟩
  · rw [if_neg h]
    go_enter Try.func24, Try.ntmps24
    go_wp2_with (first | (go_at_call 27; (with_reducible refine (right_c _ _).mono ?_); rintro e w' ⟨rfl, r, rfl⟩) | (go_at_call 27; (with_reducible refine (right_c ⟨_, _, _⟩ _).mono ?_); rintro e w' ⟨rfl, r, rfl⟩) | (go_at_call 57; (with_reducible refine (floor_c _ _ (by omega) (by omega) (by omega) _).mono ?_); rintro e w' ⟨rfl, rfl⟩))
    go_returns
    exact ⟨rfl, (by repeat (first | exact More.refl _ | refine More.alloc ?_ _ | refine More.more ?_ _ | refine More.drew ?_ | refine More.drewN ?_ _))⟩

set_option maxHeartbeats 4000000 in
theorem iroot_c (a : Iv) (W : World) :
    Calls Try.prog 21 #[ivV a] W fun e w' => e = .returned (ivV (ivRoot a)) ∧ More W w' := by
  unfold ivRoot
  cases h0 : ivRight a <;> cases h1 : (rootN a.lo false).2 <;> cases h2 : (rootN a.hi true).2
  all_goals
    simp only [Bool.and_true, Bool.and_false, if_true, if_false, Bool.false_eq_true]
    go_enter Try.func21, Try.ntmps21
    go_wp2_with (first | (go_at_call 10; (with_reducible refine (of_c _ _ _).mono ?_); rintro e w' ⟨rfl, r, rfl⟩) | (go_at_call 11; (with_reducible refine (none_c _).mono ?_); rintro e w' ⟨rfl, r, rfl⟩) | (go_at_call 27; (with_reducible refine (right_c _ _).mono ?_); rintro e w' ⟨rfl, r, rfl⟩) | (go_at_call 27; (with_reducible refine (right_c ⟨_, _, _⟩ _).mono ?_); rintro e w' ⟨rfl, r, rfl⟩) | (go_at_call 56; (with_reducible refine (root_c _ _ _).mono ?_); rintro e w' ⟨rfl, rfl⟩))
    go_returns
    exact ⟨rfl, (by repeat (first | exact More.refl _ | refine More.alloc ?_ _ | refine More.more ?_ _ | refine More.drew ?_ | refine More.drewN ?_ _))⟩

set_option maxHeartbeats 4000000 in
theorem split_c (a : Iv) (W : World) :
    Calls Try.prog 12 #[ivV a] W fun e w' => e = .returned (.tuple #[ivV (ivSplit a).1, ivV (ivSplit a).2]) ∧ More W w' := by
  unfold ivSplit
  by_cases h : ivRight a = true
  · rw [if_pos h]
    go_enter Try.func12, Try.ntmps12
    go_wp2_with (first | (go_at_call 10; (with_reducible refine (of_c _ _ _).mono ?_); rintro e w' ⟨rfl, r, rfl⟩) | (go_at_call 11; (with_reducible refine (none_c _).mono ?_); rintro e w' ⟨rfl, r, rfl⟩) | (go_at_call 24; (with_reducible refine (mid_c _ _).mono ?_); rintro e w' ⟨rfl, r, rfl⟩) | (go_at_call 24; (with_reducible refine (mid_c ⟨_, _, _⟩ _).mono ?_); rintro e w' ⟨rfl, r, rfl⟩) | (go_at_call 27; (with_reducible refine (right_c _ _).mono ?_); rintro e w' ⟨rfl, r, rfl⟩) | (go_at_call 27; (with_reducible refine (right_c ⟨_, _, _⟩ _).mono ?_); rintro e w' ⟨rfl, r, rfl⟩) | ((with_reducible refine wp_more_tail_m (id := 4) 8 (by kernel_rfl) (by kernel_rfl) ?_); (try simp only [List.take_succ_cons, List.take_zero, List.drop_succ_cons, List.drop_zero]); (repeat (any_goals (first | go_big_quiet_step ((first | (go_at_call 10; with_reducible exact quiet_call (of_c _ _ _)) | (go_at_call 11; with_reducible exact quiet_call (none_c _)) | (go_at_call 24; with_reducible exact quiet_call (mid_c _ _)) | (go_at_call 24; with_reducible exact quiet_call (mid_c ⟨_, _, _⟩ _)) | (go_at_call 27; with_reducible exact quiet_call (right_c _ _)) | (go_at_call 27; with_reducible exact quiet_call (right_c ⟨_, _, _⟩ _)))) | quiet_step ((first | (go_at_call 10; with_reducible exact quiet_call (of_c _ _ _)) | (go_at_call 11; with_reducible exact quiet_call (none_c _)) | (go_at_call 24; with_reducible exact quiet_call (mid_c _ _)) | (go_at_call 24; with_reducible exact quiet_call (mid_c ⟨_, _, _⟩ _)) | (go_at_call 27; with_reducible exact quiet_call (right_c _ _)) | (go_at_call 27; with_reducible exact quiet_call (right_c ⟨_, _, _⟩ _))))))); refine wpQuiet_nil ?_; intro r) | ((with_reducible refine wp_more_tail (id := 4) 8 (by kernel_rfl) (by kernel_rfl) ?_); (try simp only [List.take_succ_cons, List.take_zero, List.drop_succ_cons, List.drop_zero]); (repeat (any_goals (first | go_big_quiet_step ((first | (go_at_call 10; with_reducible exact quiet_call (of_c _ _ _)) | (go_at_call 11; with_reducible exact quiet_call (none_c _)) | (go_at_call 24; with_reducible exact quiet_call (mid_c _ _)) | (go_at_call 24; with_reducible exact quiet_call (mid_c ⟨_, _, _⟩ _)) | (go_at_call 27; with_reducible exact quiet_call (right_c _ _)) | (go_at_call 27; with_reducible exact quiet_call (right_c ⟨_, _, _⟩ _)))) | quiet_step ((first | (go_at_call 10; with_reducible exact quiet_call (of_c _ _ _)) | (go_at_call 11; with_reducible exact quiet_call (none_c _)) | (go_at_call 24; with_reducible exact quiet_call (mid_c _ _)) | (go_at_call 24; with_reducible exact quiet_call (mid_c ⟨_, _, _⟩ _)) | (go_at_call 27; with_reducible exact quiet_call (right_c _ _)) | (go_at_call 27; with_reducible exact quiet_call (right_c ⟨_, _, _⟩ _))))))); refine wpQuiet_nil ?_; intro r))
    go_returns
    exact ⟨rfl, (by repeat (first | exact More.refl _ | refine More.alloc ?_ _ | refine More.more ?_ _ | refine More.drew ?_ | refine More.drewN ?_ _))⟩
  · rw [if_neg h]
    go_enter Try.func12, Try.ntmps12
    go_wp2_with (first | (go_at_call 10; (with_reducible refine (of_c _ _ _).mono ?_); rintro e w' ⟨rfl, r, rfl⟩) | (go_at_call 11; (with_reducible refine (none_c _).mono ?_); rintro e w' ⟨rfl, r, rfl⟩) | (go_at_call 24; (with_reducible refine (mid_c _ _).mono ?_); rintro e w' ⟨rfl, r, rfl⟩) | (go_at_call 24; (with_reducible refine (mid_c ⟨_, _, _⟩ _).mono ?_); rintro e w' ⟨rfl, r, rfl⟩) | (go_at_call 27; (with_reducible refine (right_c _ _).mono ?_); rintro e w' ⟨rfl, r, rfl⟩) | (go_at_call 27; (with_reducible refine (right_c ⟨_, _, _⟩ _).mono ?_); rintro e w' ⟨rfl, r, rfl⟩) | ((with_reducible refine wp_more_tail_m (id := 4) 8 (by kernel_rfl) (by kernel_rfl) ?_); (try simp only [List.take_succ_cons, List.take_zero, List.drop_succ_cons, List.drop_zero]); (repeat (any_goals (first | go_big_quiet_step ((first | (go_at_call 10; with_reducible exact quiet_call (of_c _ _ _)) | (go_at_call 11; with_reducible exact quiet_call (none_c _)) | (go_at_call 24; with_reducible exact quiet_call (mid_c _ _)) | (go_at_call 24; with_reducible exact quiet_call (mid_c ⟨_, _, _⟩ _)) | (go_at_call 27; with_reducible exact quiet_call (right_c _ _)) | (go_at_call 27; with_reducible exact quiet_call (right_c ⟨_, _, _⟩ _)))) | quiet_step ((first | (go_at_call 10; with_reducible exact quiet_call (of_c _ _ _)) | (go_at_call 11; with_reducible exact quiet_call (none_c _)) | (go_at_call 24; with_reducible exact quiet_call (mid_c _ _)) | (go_at_call 24; with_reducible exact quiet_call (mid_c ⟨_, _, _⟩ _)) | (go_at_call 27; with_reducible exact quiet_call (right_c _ _)) | (go_at_call 27; with_reducible exact quiet_call (right_c ⟨_, _, _⟩ _))))))); refine wpQuiet_nil ?_; intro r) | ((with_reducible refine wp_more_tail (id := 4) 8 (by kernel_rfl) (by kernel_rfl) ?_); (try simp only [List.take_succ_cons, List.take_zero, List.drop_succ_cons, List.drop_zero]); (repeat (any_goals (first | go_big_quiet_step ((first | (go_at_call 10; with_reducible exact quiet_call (of_c _ _ _)) | (go_at_call 11; with_reducible exact quiet_call (none_c _)) | (go_at_call 24; with_reducible exact quiet_call (mid_c _ _)) | (go_at_call 24; with_reducible exact quiet_call (mid_c ⟨_, _, _⟩ _)) | (go_at_call 27; with_reducible exact quiet_call (right_c _ _)) | (go_at_call 27; with_reducible exact quiet_call (right_c ⟨_, _, _⟩ _)))) | quiet_step ((first | (go_at_call 10; with_reducible exact quiet_call (of_c _ _ _)) | (go_at_call 11; with_reducible exact quiet_call (none_c _)) | (go_at_call 24; with_reducible exact quiet_call (mid_c _ _)) | (go_at_call 24; with_reducible exact quiet_call (mid_c ⟨_, _, _⟩ _)) | (go_at_call 27; with_reducible exact quiet_call (right_c _ _)) | (go_at_call 27; with_reducible exact quiet_call (right_c ⟨_, _, _⟩ _))))))); refine wpQuiet_nil ?_; intro r))
    go_returns
    exact ⟨rfl, (by repeat (first | exact More.refl _ | refine More.alloc ?_ _ | refine More.more ?_ _ | refine More.drew ?_ | refine More.drewN ?_ _))⟩

end Go.Proofs.Ytmhcffpmekbjmaa

