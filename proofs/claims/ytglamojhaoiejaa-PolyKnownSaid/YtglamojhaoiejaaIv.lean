/-
  The contracts of package iv: each call answers what the plain interval of the same name is, and makes no more than memory of its own.
-/
import Derived.Test.YtglamojhaoiejaaNum
import Derived.Test.YtglamojhaoiejaaReg3
import Derived.Test.YtglamojhaoiejaaIvMath
namespace Go.Proofs.Ytglamojhaoiejaa
set_option linter.unusedVariables false
open Go.ChangeShapes Go.WideShapes Go.ChangeAt Go.RowKit

/-- A field of an interval by value. -/
@[go_sem] theorem run_iv_lo (a : Iv) (w : World) : (Instr.field 25 (ivV a) 0).run Try.prog w = .ok (.int .i64 a.lo) w := by kernel_rfl
@[go_sem] theorem run_iv_hi (a : Iv) (w : World) : (Instr.field 25 (ivV a) 1).run Try.prog w = .ok (.int .i64 a.hi) w := by kernel_rfl
@[go_sem] theorem run_iv_no (a : Iv) (w : World) : (Instr.field 25 (ivV a) 2).run Try.prog w = .ok (.bool a.no) w := by kernel_rfl

set_option maxHeartbeats 4000000 in
theorem right_c (a : Iv) (W : World) :
    Calls Try.prog 15 #[ivV a] W fun e w' => e = .returned (.bool (ivRight a)) ∧ More W w' := by
  unfold ivRight
  cases h0 : a.no <;> cases h1 : isIn a.lo <;> cases h2 : isIn a.hi <;> cases h3 : decide (a.lo ≤ a.hi)
  all_goals
    go_enter Try.func15, Try.ntmps15
    go_wp2_with (first | (go_at_call 19; (with_reducible refine (in_c _ _).mono ?_); rintro e w' ⟨rfl, rfl⟩))
    go_returns
    exact ⟨rfl, (by repeat (first | exact More.refl _ | refine More.alloc ?_ _ | refine More.more ?_ _ | refine More.drew ?_ | refine More.drewN ?_ _))⟩

set_option maxHeartbeats 4000000 in
theorem none_c  (W : World) :
    Calls Try.prog 10 #[] W fun e w' => e = .returned (ivV ivNone) ∧ More W w' := by
  go_enter Try.func10, Try.ntmps10
  go_wp2_with fail
  go_returns
  exact ⟨rfl, (by repeat (first | exact More.refl _ | refine More.alloc ?_ _ | refine More.more ?_ _ | refine More.drew ?_ | refine More.drewN ?_ _))⟩

set_option maxHeartbeats 4000000 in
theorem of_c (a b : Int) (W : World) :
    Calls Try.prog 22 #[.int .i64 a, .int .i64 b] W fun e w' => e = .returned (ivV (ivOf a b)) ∧ More W w' := by
  unfold ivOf
  by_cases h : ivRight ⟨a, b, false⟩ = true
  · rw [if_pos h]
    go_enter Try.func22, Try.ntmps22
    go_wp2_with (first | (go_at_call 10; (with_reducible refine (none_c _).mono ?_); rintro e w' ⟨rfl, r, rfl⟩) | (go_at_call 15; (with_reducible refine (right_c _ _).mono ?_); rintro e w' ⟨rfl, r, rfl⟩) | (go_at_call 15; (with_reducible refine (right_c ⟨_, _, _⟩ _).mono ?_); rintro e w' ⟨rfl, r, rfl⟩))
    go_returns
    exact ⟨rfl, (by repeat (first | exact More.refl _ | refine More.alloc ?_ _ | refine More.more ?_ _ | refine More.drew ?_ | refine More.drewN ?_ _))⟩
  · rw [if_neg h]
    go_enter Try.func22, Try.ntmps22
    go_wp2_with (first | (go_at_call 10; (with_reducible refine (none_c _).mono ?_); rintro e w' ⟨rfl, r, rfl⟩) | (go_at_call 15; (with_reducible refine (right_c _ _).mono ?_); rintro e w' ⟨rfl, r, rfl⟩) | (go_at_call 15; (with_reducible refine (right_c ⟨_, _, _⟩ _).mono ?_); rintro e w' ⟨rfl, r, rfl⟩))
    go_returns
    exact ⟨rfl, (by repeat (first | exact More.refl _ | refine More.alloc ?_ _ | refine More.more ?_ _ | refine More.drew ?_ | refine More.drewN ?_ _))⟩

set_option maxHeartbeats 4000000 in
theorem point_c (n : Int) (W : World) :
    Calls Try.prog 11 #[.int .i64 n] W fun e w' => e = .returned (ivV (ivPoint n)) ∧ More W w' := by
  go_enter Try.func11, Try.ntmps11
  go_wp2_with (first | (go_at_call 22; (with_reducible refine (of_c _ _ _).mono ?_); rintro e w' ⟨rfl, r, rfl⟩))
  go_returns
  exact ⟨rfl, (by repeat (first | exact More.refl _ | refine More.alloc ?_ _ | refine More.more ?_ _ | refine More.drew ?_ | refine More.drewN ?_ _))⟩

set_option maxHeartbeats 4000000 in
theorem whole_c (n : Int) (W : World) :
    Calls Try.prog 7 #[.int .i64 n] W fun e w' => e = .returned (ivV (ivWhole n)) ∧ More W w' := by
  unfold ivWhole
  by_cases h : isIn n = true
  · rw [if_pos h]
    have hb := isIn_iff.1 h
    go_enter Try.func7, Try.ntmps7
    go_wp2_with (first | (go_at_call 10; (with_reducible refine (none_c _).mono ?_); rintro e w' ⟨rfl, r, rfl⟩) | (go_at_call 11; (with_reducible refine (point_c _ _).mono ?_); rintro e w' ⟨rfl, r, rfl⟩) | (go_at_call 19; (with_reducible refine (in_c _ _).mono ?_); rintro e w' ⟨rfl, rfl⟩))
    go_returns
    exact ⟨rfl, (by repeat (first | exact More.refl _ | refine More.alloc ?_ _ | refine More.more ?_ _ | refine More.drew ?_ | refine More.drewN ?_ _))⟩
  · rw [if_neg h]
    go_enter Try.func7, Try.ntmps7
    go_wp2_with (first | (go_at_call 10; (with_reducible refine (none_c _).mono ?_); rintro e w' ⟨rfl, r, rfl⟩) | (go_at_call 11; (with_reducible refine (point_c _ _).mono ?_); rintro e w' ⟨rfl, r, rfl⟩) | (go_at_call 19; (with_reducible refine (in_c _ _).mono ?_); rintro e w' ⟨rfl, rfl⟩))
    go_returns
    exact ⟨rfl, (by repeat (first | exact More.refl _ | refine More.alloc ?_ _ | refine More.more ?_ _ | refine More.drew ?_ | refine More.drewN ?_ _))⟩

set_option maxHeartbeats 4000000 in
theorem both_c (a b : Iv) (W : World) :
    Calls Try.prog 24 #[ivV a, ivV b] W fun e w' => e = .returned (.bool (ivBoth a b)) ∧ More W w' := by
  unfold ivBoth
  cases h0 : ivRight a <;> cases h1 : ivRight b
  all_goals
    go_enter Try.func24, Try.ntmps24
    go_wp2_with (first | (go_at_call 15; (with_reducible refine (right_c _ _).mono ?_); rintro e w' ⟨rfl, r, rfl⟩) | (go_at_call 15; (with_reducible refine (right_c ⟨_, _, _⟩ _).mono ?_); rintro e w' ⟨rfl, r, rfl⟩))
    go_returns
    exact ⟨rfl, (by repeat (first | exact More.refl _ | refine More.alloc ?_ _ | refine More.more ?_ _ | refine More.drew ?_ | refine More.drewN ?_ _))⟩

set_option maxHeartbeats 4000000 in
theorem neg_c (a : Iv) (W : World) :
    Calls Try.prog 25 #[ivV a] W fun e w' => e = .returned (ivV (ivNeg a)) ∧ More W w' := by
  unfold ivNeg
  by_cases h : ivRight a = true
  · rw [if_pos h]
    obtain ⟨⟨b1, b2⟩, ⟨b3, b4⟩, b5⟩ := right_bd h
    go_enter Try.func25, Try.ntmps25
    go_wp2_with (first | (go_at_call 10; (with_reducible refine (none_c _).mono ?_); rintro e w' ⟨rfl, r, rfl⟩) | (go_at_call 15; (with_reducible refine (right_c _ _).mono ?_); rintro e w' ⟨rfl, r, rfl⟩) | (go_at_call 15; (with_reducible refine (right_c ⟨_, _, _⟩ _).mono ?_); rintro e w' ⟨rfl, r, rfl⟩) | (go_at_call 22; (with_reducible refine (of_c _ _ _).mono ?_); rintro e w' ⟨rfl, r, rfl⟩))
    go_returns
    exact ⟨rfl, (by repeat (first | exact More.refl _ | refine More.alloc ?_ _ | refine More.more ?_ _ | refine More.drew ?_ | refine More.drewN ?_ _))⟩
  · rw [if_neg h]
    go_enter Try.func25, Try.ntmps25
    go_wp2_with (first | (go_at_call 10; (with_reducible refine (none_c _).mono ?_); rintro e w' ⟨rfl, r, rfl⟩) | (go_at_call 15; (with_reducible refine (right_c _ _).mono ?_); rintro e w' ⟨rfl, r, rfl⟩) | (go_at_call 15; (with_reducible refine (right_c ⟨_, _, _⟩ _).mono ?_); rintro e w' ⟨rfl, r, rfl⟩) | (go_at_call 22; (with_reducible refine (of_c _ _ _).mono ?_); rintro e w' ⟨rfl, r, rfl⟩))
    go_returns
    exact ⟨rfl, (by repeat (first | exact More.refl _ | refine More.alloc ?_ _ | refine More.more ?_ _ | refine More.drew ?_ | refine More.drewN ?_ _))⟩

set_option maxHeartbeats 4000000 in
theorem add_c (a b : Iv) (W : World) :
    Calls Try.prog 20 #[ivV a, ivV b] W fun e w' => e = .returned (ivV (ivAdd a b)) ∧ More W w' := by
  unfold ivAdd
  by_cases h : ivBoth a b = true
  · rw [if_pos h]
    obtain ⟨⟨⟨b1, b2⟩, ⟨b3, b4⟩, b5⟩, ⟨c1, c2⟩, ⟨c3, c4⟩, c5⟩ := both_bd h
    go_enter Try.func20, Try.ntmps20
    go_wp2_with (first | (go_at_call 10; (with_reducible refine (none_c _).mono ?_); rintro e w' ⟨rfl, r, rfl⟩) | (go_at_call 22; (with_reducible refine (of_c _ _ _).mono ?_); rintro e w' ⟨rfl, r, rfl⟩) | (go_at_call 24; (with_reducible refine (both_c _ _ _).mono ?_); rintro e w' ⟨rfl, r, rfl⟩) | (go_at_call 24; (with_reducible refine (both_c _ ⟨_, _, _⟩ _).mono ?_); rintro e w' ⟨rfl, r, rfl⟩) | (go_at_call 24; (with_reducible refine (both_c ⟨_, _, _⟩ _ _).mono ?_); rintro e w' ⟨rfl, r, rfl⟩) | (go_at_call 24; (with_reducible refine (both_c ⟨_, _, _⟩ ⟨_, _, _⟩ _).mono ?_); rintro e w' ⟨rfl, r, rfl⟩))
    go_returns
    exact ⟨rfl, (by repeat (first | exact More.refl _ | refine More.alloc ?_ _ | refine More.more ?_ _ | refine More.drew ?_ | refine More.drewN ?_ _))⟩
  · rw [if_neg h]
    go_enter Try.func20, Try.ntmps20
    go_wp2_with (first | (go_at_call 10; (with_reducible refine (none_c _).mono ?_); rintro e w' ⟨rfl, r, rfl⟩) | (go_at_call 22; (with_reducible refine (of_c _ _ _).mono ?_); rintro e w' ⟨rfl, r, rfl⟩) | (go_at_call 24; (with_reducible refine (both_c _ _ _).mono ?_); rintro e w' ⟨rfl, r, rfl⟩) | (go_at_call 24; (with_reducible refine (both_c _ ⟨_, _, _⟩ _).mono ?_); rintro e w' ⟨rfl, r, rfl⟩) | (go_at_call 24; (with_reducible refine (both_c ⟨_, _, _⟩ _ _).mono ?_); rintro e w' ⟨rfl, r, rfl⟩) | (go_at_call 24; (with_reducible refine (both_c ⟨_, _, _⟩ ⟨_, _, _⟩ _).mono ?_); rintro e w' ⟨rfl, r, rfl⟩))
    go_returns
    exact ⟨rfl, (by repeat (first | exact More.refl _ | refine More.alloc ?_ _ | refine More.more ?_ _ | refine More.drew ?_ | refine More.drewN ?_ _))⟩

set_option maxHeartbeats 4000000 in
theorem sub_c (a b : Iv) (W : World) :
    Calls Try.prog 17 #[ivV a, ivV b] W fun e w' => e = .returned (ivV (ivSub a b)) ∧ More W w' := by
  go_enter Try.func17, Try.ntmps17
  go_wp2_with (first | (go_at_call 20; (with_reducible refine (add_c _ _ _).mono ?_); rintro e w' ⟨rfl, r, rfl⟩) | (go_at_call 20; (with_reducible refine (add_c _ ⟨_, _, _⟩ _).mono ?_); rintro e w' ⟨rfl, r, rfl⟩) | (go_at_call 20; (with_reducible refine (add_c ⟨_, _, _⟩ _ _).mono ?_); rintro e w' ⟨rfl, r, rfl⟩) | (go_at_call 20; (with_reducible refine (add_c ⟨_, _, _⟩ ⟨_, _, _⟩ _).mono ?_); rintro e w' ⟨rfl, r, rfl⟩) | (go_at_call 25; (with_reducible refine (neg_c _ _).mono ?_); rintro e w' ⟨rfl, r, rfl⟩) | (go_at_call 25; (with_reducible refine (neg_c ⟨_, _, _⟩ _).mono ?_); rintro e w' ⟨rfl, r, rfl⟩) | ((with_reducible show Code.wp _ (Code.region 1 _ true) _ _ _); (with_reducible refine wp_more_tailq_m (id := 1) 4 ?_ ?_ ?_); kernel_rfl; kernel_rfl; (try simp only [List.take_succ_cons, List.take_zero, List.drop_succ_cons, List.drop_zero]); (repeat (any_goals (first | go_big_quiet_step ((first | (go_at_call 20; (with_reducible apply quiet_call); with_reducible exact add_c _ _ _) | (go_at_call 20; (with_reducible apply quiet_call); with_reducible exact add_c _ ⟨_, _, _⟩ _) | (go_at_call 20; (with_reducible apply quiet_call); with_reducible exact add_c ⟨_, _, _⟩ _ _) | (go_at_call 20; (with_reducible apply quiet_call); with_reducible exact add_c ⟨_, _, _⟩ ⟨_, _, _⟩ _) | (go_at_call 25; (with_reducible apply quiet_call); with_reducible exact neg_c _ _) | (go_at_call 25; (with_reducible apply quiet_call); with_reducible exact neg_c ⟨_, _, _⟩ _))) | quiet_step ((first | (go_at_call 20; (with_reducible apply quiet_call); with_reducible exact add_c _ _ _) | (go_at_call 20; (with_reducible apply quiet_call); with_reducible exact add_c _ ⟨_, _, _⟩ _) | (go_at_call 20; (with_reducible apply quiet_call); with_reducible exact add_c ⟨_, _, _⟩ _ _) | (go_at_call 20; (with_reducible apply quiet_call); with_reducible exact add_c ⟨_, _, _⟩ ⟨_, _, _⟩ _) | (go_at_call 25; (with_reducible apply quiet_call); with_reducible exact neg_c _ _) | (go_at_call 25; (with_reducible apply quiet_call); with_reducible exact neg_c ⟨_, _, _⟩ _)))))); (with_reducible refine wpQuiet_nil ?_); intro r) | ((with_reducible show Code.wp _ (Code.region 1 _ true) _ _ _); (with_reducible refine wp_more_tailq (id := 1) 4 ?_ ?_ ?_); kernel_rfl; kernel_rfl; (try simp only [List.take_succ_cons, List.take_zero, List.drop_succ_cons, List.drop_zero]); (repeat (any_goals (first | go_big_quiet_step ((first | (go_at_call 20; (with_reducible apply quiet_call); with_reducible exact add_c _ _ _) | (go_at_call 20; (with_reducible apply quiet_call); with_reducible exact add_c _ ⟨_, _, _⟩ _) | (go_at_call 20; (with_reducible apply quiet_call); with_reducible exact add_c ⟨_, _, _⟩ _ _) | (go_at_call 20; (with_reducible apply quiet_call); with_reducible exact add_c ⟨_, _, _⟩ ⟨_, _, _⟩ _) | (go_at_call 25; (with_reducible apply quiet_call); with_reducible exact neg_c _ _) | (go_at_call 25; (with_reducible apply quiet_call); with_reducible exact neg_c ⟨_, _, _⟩ _))) | quiet_step ((first | (go_at_call 20; (with_reducible apply quiet_call); with_reducible exact add_c _ _ _) | (go_at_call 20; (with_reducible apply quiet_call); with_reducible exact add_c _ ⟨_, _, _⟩ _) | (go_at_call 20; (with_reducible apply quiet_call); with_reducible exact add_c ⟨_, _, _⟩ _ _) | (go_at_call 20; (with_reducible apply quiet_call); with_reducible exact add_c ⟨_, _, _⟩ ⟨_, _, _⟩ _) | (go_at_call 25; (with_reducible apply quiet_call); with_reducible exact neg_c _ _) | (go_at_call 25; (with_reducible apply quiet_call); with_reducible exact neg_c ⟨_, _, _⟩ _)))))); (with_reducible refine wpQuiet_nil ?_); intro r))
  go_returns
  exact ⟨rfl, (by repeat (first | exact More.refl _ | refine More.alloc ?_ _ | refine More.more ?_ _ | refine More.drew ?_ | refine More.drewN ?_ _))⟩

set_option maxHeartbeats 4000000 in
theorem out_c (lo hi : Int) (h0 : -1152921504606846976 ≤ lo ∧ lo ≤ 1152921504606846976) (h1 : -1152921504606846976 ≤ hi ∧ hi ≤ 1152921504606846976) (W : World) :
    Calls Try.prog 26 #[.int .i64 lo, .int .i64 hi] W fun e w' => e = .returned (ivV (ivOut lo hi)) ∧ More W w' := by
  have e1 := fdiv_abs (-hi) 65536
  have e2 : -1152921504606846976 ≤ (-hi).fdiv 65536 ∧ (-hi).fdiv 65536 ≤ 1152921504606846976 := by omega
  clear e1
  go_enter Try.func26, Try.ntmps26
  go_wp2_with (first | (go_at_call 22; (with_reducible refine (of_c _ _ _).mono ?_); rintro e w' ⟨rfl, r, rfl⟩) | (go_at_call 27; (with_reducible refine (floor_c _ _ (by omega) (by omega) (by omega) _).mono ?_); rintro e w' ⟨rfl, rfl⟩))
  go_returns
  exact ⟨rfl, (by repeat (first | exact More.refl _ | refine More.alloc ?_ _ | refine More.more ?_ _ | refine More.drew ?_ | refine More.drewN ?_ _))⟩

set_option maxHeartbeats 4000000 in
theorem mul_iv_c (a b : Iv) (W : World) :
    Calls Try.prog 21 #[ivV a, ivV b] W fun e w' => e = .returned (ivV (ivMul a b)) ∧ More W w' := by
  unfold ivMul
  by_cases h : ivBoth a b = true
  · rw [if_pos h]
    have p1 := prod_in h a.lo b.lo (.inl rfl) (.inl rfl)
    have p2 := prod_in h a.lo b.hi (.inl rfl) (.inr rfl)
    have p3 := prod_in h a.hi b.lo (.inr rfl) (.inl rfl)
    have p4 := prod_in h a.hi b.hi (.inr rfl) (.inr rfl)
    go_enter Try.func21, Try.ntmps21
    go_wp2_with (first | (go_at_call 10; (with_reducible refine (none_c _).mono ?_); rintro e w' ⟨rfl, r, rfl⟩) | (go_at_call 24; (with_reducible refine (both_c _ _ _).mono ?_); rintro e w' ⟨rfl, r, rfl⟩) | (go_at_call 24; (with_reducible refine (both_c _ ⟨_, _, _⟩ _).mono ?_); rintro e w' ⟨rfl, r, rfl⟩) | (go_at_call 24; (with_reducible refine (both_c ⟨_, _, _⟩ _ _).mono ?_); rintro e w' ⟨rfl, r, rfl⟩) | (go_at_call 24; (with_reducible refine (both_c ⟨_, _, _⟩ ⟨_, _, _⟩ _).mono ?_); rintro e w' ⟨rfl, r, rfl⟩) | (go_at_call 26; (with_reducible refine (out_c _ _ (by omega) (by omega) _).mono ?_); rintro e w' ⟨rfl, r, rfl⟩) | ((with_reducible show Code.wp _ (Code.region 3 _ true) _ _ _); (with_reducible refine wp_more_quick_m (id := 3) ?_ ?_ ?_); kernel_rfl; kernel_rfl; (try simp only [List.take_succ_cons, List.take_zero, List.drop_succ_cons, List.drop_zero]); (repeat (any_goals (first | go_big_quiet_step ((first | (go_at_call 10; (with_reducible apply quiet_call); with_reducible exact none_c _) | (go_at_call 24; (with_reducible apply quiet_call_b); (with_reducible exact both_c _ _ _); with_reducible assumption) | (go_at_call 24; (with_reducible apply quiet_call); with_reducible exact both_c _ _ _) | (go_at_call 24; (with_reducible apply quiet_call_b); (with_reducible exact both_c _ ⟨_, _, _⟩ _); with_reducible assumption) | (go_at_call 24; (with_reducible apply quiet_call); with_reducible exact both_c _ ⟨_, _, _⟩ _) | (go_at_call 24; (with_reducible apply quiet_call_b); (with_reducible exact both_c ⟨_, _, _⟩ _ _); with_reducible assumption) | (go_at_call 24; (with_reducible apply quiet_call); with_reducible exact both_c ⟨_, _, _⟩ _ _) | (go_at_call 24; (with_reducible apply quiet_call_b); (with_reducible exact both_c ⟨_, _, _⟩ ⟨_, _, _⟩ _); with_reducible assumption) | (go_at_call 24; (with_reducible apply quiet_call); with_reducible exact both_c ⟨_, _, _⟩ ⟨_, _, _⟩ _) | (go_at_call 26; (with_reducible apply quiet_call); with_reducible exact out_c _ _ (by omega) (by omega) _))) | quiet_step ((first | (go_at_call 10; (with_reducible apply quiet_call); with_reducible exact none_c _) | (go_at_call 24; (with_reducible apply quiet_call_b); (with_reducible exact both_c _ _ _); with_reducible assumption) | (go_at_call 24; (with_reducible apply quiet_call); with_reducible exact both_c _ _ _) | (go_at_call 24; (with_reducible apply quiet_call_b); (with_reducible exact both_c _ ⟨_, _, _⟩ _); with_reducible assumption) | (go_at_call 24; (with_reducible apply quiet_call); with_reducible exact both_c _ ⟨_, _, _⟩ _) | (go_at_call 24; (with_reducible apply quiet_call_b); (with_reducible exact both_c ⟨_, _, _⟩ _ _); with_reducible assumption) | (go_at_call 24; (with_reducible apply quiet_call); with_reducible exact both_c ⟨_, _, _⟩ _ _) | (go_at_call 24; (with_reducible apply quiet_call_b); (with_reducible exact both_c ⟨_, _, _⟩ ⟨_, _, _⟩ _); with_reducible assumption) | (go_at_call 24; (with_reducible apply quiet_call); with_reducible exact both_c ⟨_, _, _⟩ ⟨_, _, _⟩ _) | (go_at_call 26; (with_reducible apply quiet_call); with_reducible exact out_c _ _ (by omega) (by omega) _)))))); (with_reducible refine wpQuiet_nil ?_); intro r) | ((with_reducible show Code.wp _ (Code.region 3 _ true) _ _ _); (with_reducible refine wp_more_quick (id := 3) ?_ ?_ ?_); kernel_rfl; kernel_rfl; (try simp only [List.take_succ_cons, List.take_zero, List.drop_succ_cons, List.drop_zero]); (repeat (any_goals (first | go_big_quiet_step ((first | (go_at_call 10; (with_reducible apply quiet_call); with_reducible exact none_c _) | (go_at_call 24; (with_reducible apply quiet_call_b); (with_reducible exact both_c _ _ _); with_reducible assumption) | (go_at_call 24; (with_reducible apply quiet_call); with_reducible exact both_c _ _ _) | (go_at_call 24; (with_reducible apply quiet_call_b); (with_reducible exact both_c _ ⟨_, _, _⟩ _); with_reducible assumption) | (go_at_call 24; (with_reducible apply quiet_call); with_reducible exact both_c _ ⟨_, _, _⟩ _) | (go_at_call 24; (with_reducible apply quiet_call_b); (with_reducible exact both_c ⟨_, _, _⟩ _ _); with_reducible assumption) | (go_at_call 24; (with_reducible apply quiet_call); with_reducible exact both_c ⟨_, _, _⟩ _ _) | (go_at_call 24; (with_reducible apply quiet_call_b); (with_reducible exact both_c ⟨_, _, _⟩ ⟨_, _, _⟩ _); with_reducible assumption) | (go_at_call 24; (with_reducible apply quiet_call); with_reducible exact both_c ⟨_, _, _⟩ ⟨_, _, _⟩ _) | (go_at_call 26; (with_reducible apply quiet_call); with_reducible exact out_c _ _ (by omega) (by omega) _))) | quiet_step ((first | (go_at_call 10; (with_reducible apply quiet_call); with_reducible exact none_c _) | (go_at_call 24; (with_reducible apply quiet_call_b); (with_reducible exact both_c _ _ _); with_reducible assumption) | (go_at_call 24; (with_reducible apply quiet_call); with_reducible exact both_c _ _ _) | (go_at_call 24; (with_reducible apply quiet_call_b); (with_reducible exact both_c _ ⟨_, _, _⟩ _); with_reducible assumption) | (go_at_call 24; (with_reducible apply quiet_call); with_reducible exact both_c _ ⟨_, _, _⟩ _) | (go_at_call 24; (with_reducible apply quiet_call_b); (with_reducible exact both_c ⟨_, _, _⟩ _ _); with_reducible assumption) | (go_at_call 24; (with_reducible apply quiet_call); with_reducible exact both_c ⟨_, _, _⟩ _ _) | (go_at_call 24; (with_reducible apply quiet_call_b); (with_reducible exact both_c ⟨_, _, _⟩ ⟨_, _, _⟩ _); with_reducible assumption) | (go_at_call 24; (with_reducible apply quiet_call); with_reducible exact both_c ⟨_, _, _⟩ ⟨_, _, _⟩ _) | (go_at_call 26; (with_reducible apply quiet_call); with_reducible exact out_c _ _ (by omega) (by omega) _)))))); (with_reducible refine wpQuiet_nil ?_); intro r))
    go_returns
    exact ⟨rfl, (by repeat (first | exact More.refl _ | refine More.alloc ?_ _ | refine More.more ?_ _ | refine More.drew ?_ | refine More.drewN ?_ _))⟩
  · rw [if_neg h]
    go_enter Try.func21, Try.ntmps21
    go_wp2_with (first | (go_at_call 10; (with_reducible refine (none_c _).mono ?_); rintro e w' ⟨rfl, r, rfl⟩) | (go_at_call 24; (with_reducible refine (both_c _ _ _).mono ?_); rintro e w' ⟨rfl, r, rfl⟩) | (go_at_call 24; (with_reducible refine (both_c _ ⟨_, _, _⟩ _).mono ?_); rintro e w' ⟨rfl, r, rfl⟩) | (go_at_call 24; (with_reducible refine (both_c ⟨_, _, _⟩ _ _).mono ?_); rintro e w' ⟨rfl, r, rfl⟩) | (go_at_call 24; (with_reducible refine (both_c ⟨_, _, _⟩ ⟨_, _, _⟩ _).mono ?_); rintro e w' ⟨rfl, r, rfl⟩) | (go_at_call 26; (with_reducible refine (out_c _ _ (by omega) (by omega) _).mono ?_); rintro e w' ⟨rfl, r, rfl⟩) | ((with_reducible show Code.wp _ (Code.region 3 _ true) _ _ _); (with_reducible refine wp_more_quick_m (id := 3) ?_ ?_ ?_); kernel_rfl; kernel_rfl; (try simp only [List.take_succ_cons, List.take_zero, List.drop_succ_cons, List.drop_zero]); (repeat (any_goals (first | go_big_quiet_step ((first | (go_at_call 10; (with_reducible apply quiet_call); with_reducible exact none_c _) | (go_at_call 24; (with_reducible apply quiet_call_b); (with_reducible exact both_c _ _ _); with_reducible assumption) | (go_at_call 24; (with_reducible apply quiet_call); with_reducible exact both_c _ _ _) | (go_at_call 24; (with_reducible apply quiet_call_b); (with_reducible exact both_c _ ⟨_, _, _⟩ _); with_reducible assumption) | (go_at_call 24; (with_reducible apply quiet_call); with_reducible exact both_c _ ⟨_, _, _⟩ _) | (go_at_call 24; (with_reducible apply quiet_call_b); (with_reducible exact both_c ⟨_, _, _⟩ _ _); with_reducible assumption) | (go_at_call 24; (with_reducible apply quiet_call); with_reducible exact both_c ⟨_, _, _⟩ _ _) | (go_at_call 24; (with_reducible apply quiet_call_b); (with_reducible exact both_c ⟨_, _, _⟩ ⟨_, _, _⟩ _); with_reducible assumption) | (go_at_call 24; (with_reducible apply quiet_call); with_reducible exact both_c ⟨_, _, _⟩ ⟨_, _, _⟩ _) | (go_at_call 26; (with_reducible apply quiet_call); with_reducible exact out_c _ _ (by omega) (by omega) _))) | quiet_step ((first | (go_at_call 10; (with_reducible apply quiet_call); with_reducible exact none_c _) | (go_at_call 24; (with_reducible apply quiet_call_b); (with_reducible exact both_c _ _ _); with_reducible assumption) | (go_at_call 24; (with_reducible apply quiet_call); with_reducible exact both_c _ _ _) | (go_at_call 24; (with_reducible apply quiet_call_b); (with_reducible exact both_c _ ⟨_, _, _⟩ _); with_reducible assumption) | (go_at_call 24; (with_reducible apply quiet_call); with_reducible exact both_c _ ⟨_, _, _⟩ _) | (go_at_call 24; (with_reducible apply quiet_call_b); (with_reducible exact both_c ⟨_, _, _⟩ _ _); with_reducible assumption) | (go_at_call 24; (with_reducible apply quiet_call); with_reducible exact both_c ⟨_, _, _⟩ _ _) | (go_at_call 24; (with_reducible apply quiet_call_b); (with_reducible exact both_c ⟨_, _, _⟩ ⟨_, _, _⟩ _); with_reducible assumption) | (go_at_call 24; (with_reducible apply quiet_call); with_reducible exact both_c ⟨_, _, _⟩ ⟨_, _, _⟩ _) | (go_at_call 26; (with_reducible apply quiet_call); with_reducible exact out_c _ _ (by omega) (by omega) _)))))); (with_reducible refine wpQuiet_nil ?_); intro r) | ((with_reducible show Code.wp _ (Code.region 3 _ true) _ _ _); (with_reducible refine wp_more_quick (id := 3) ?_ ?_ ?_); kernel_rfl; kernel_rfl; (try simp only [List.take_succ_cons, List.take_zero, List.drop_succ_cons, List.drop_zero]); (repeat (any_goals (first | go_big_quiet_step ((first | (go_at_call 10; (with_reducible apply quiet_call); with_reducible exact none_c _) | (go_at_call 24; (with_reducible apply quiet_call_b); (with_reducible exact both_c _ _ _); with_reducible assumption) | (go_at_call 24; (with_reducible apply quiet_call); with_reducible exact both_c _ _ _) | (go_at_call 24; (with_reducible apply quiet_call_b); (with_reducible exact both_c _ ⟨_, _, _⟩ _); with_reducible assumption) | (go_at_call 24; (with_reducible apply quiet_call); with_reducible exact both_c _ ⟨_, _, _⟩ _) | (go_at_call 24; (with_reducible apply quiet_call_b); (with_reducible exact both_c ⟨_, _, _⟩ _ _); with_reducible assumption) | (go_at_call 24; (with_reducible apply quiet_call); with_reducible exact both_c ⟨_, _, _⟩ _ _) | (go_at_call 24; (with_reducible apply quiet_call_b); (with_reducible exact both_c ⟨_, _, _⟩ ⟨_, _, _⟩ _); with_reducible assumption) | (go_at_call 24; (with_reducible apply quiet_call); with_reducible exact both_c ⟨_, _, _⟩ ⟨_, _, _⟩ _) | (go_at_call 26; (with_reducible apply quiet_call); with_reducible exact out_c _ _ (by omega) (by omega) _))) | quiet_step ((first | (go_at_call 10; (with_reducible apply quiet_call); with_reducible exact none_c _) | (go_at_call 24; (with_reducible apply quiet_call_b); (with_reducible exact both_c _ _ _); with_reducible assumption) | (go_at_call 24; (with_reducible apply quiet_call); with_reducible exact both_c _ _ _) | (go_at_call 24; (with_reducible apply quiet_call_b); (with_reducible exact both_c _ ⟨_, _, _⟩ _); with_reducible assumption) | (go_at_call 24; (with_reducible apply quiet_call); with_reducible exact both_c _ ⟨_, _, _⟩ _) | (go_at_call 24; (with_reducible apply quiet_call_b); (with_reducible exact both_c ⟨_, _, _⟩ _ _); with_reducible assumption) | (go_at_call 24; (with_reducible apply quiet_call); with_reducible exact both_c ⟨_, _, _⟩ _ _) | (go_at_call 24; (with_reducible apply quiet_call_b); (with_reducible exact both_c ⟨_, _, _⟩ ⟨_, _, _⟩ _); with_reducible assumption) | (go_at_call 24; (with_reducible apply quiet_call); with_reducible exact both_c ⟨_, _, _⟩ ⟨_, _, _⟩ _) | (go_at_call 26; (with_reducible apply quiet_call); with_reducible exact out_c _ _ (by omega) (by omega) _)))))); (with_reducible refine wpQuiet_nil ?_); intro r))
    go_returns
    exact ⟨rfl, (by repeat (first | exact More.refl _ | refine More.alloc ?_ _ | refine More.more ?_ _ | refine More.drew ?_ | refine More.drewN ?_ _))⟩

set_option maxHeartbeats 4000000 in
theorem times_c (a : Iv) (k : Int) (W : World) :
    Calls Try.prog 18 #[ivV a, .int .i64 k] W fun e w' => e = .returned (ivV (ivTimes a k)) ∧ More W w' := by
  unfold ivTimes
  by_cases h : ivRight a = true
  · by_cases h1 : isIn k = true
    · rw [h, h1]
      obtain ⟨⟨b1, b2⟩, ⟨b3, b4⟩, b5⟩ := right_bd h
      have p1 := mul_bd (A := 1073741824) (B := 1073741824) (isIn_iff.1 h1) ⟨b1, b2⟩
      have p2 := mul_bd (A := 1073741824) (B := 1073741824) (isIn_iff.1 h1) ⟨b3, b4⟩
      go_enter Try.func18, Try.ntmps18
      go_wp2_with (first | (go_at_call 10; (with_reducible refine (none_c _).mono ?_); rintro e w' ⟨rfl, r, rfl⟩) | (go_at_call 15; (with_reducible refine (right_c _ _).mono ?_); rintro e w' ⟨rfl, r, rfl⟩) | (go_at_call 15; (with_reducible refine (right_c ⟨_, _, _⟩ _).mono ?_); rintro e w' ⟨rfl, r, rfl⟩) | (go_at_call 19; (with_reducible refine (in_c _ _).mono ?_); rintro e w' ⟨rfl, rfl⟩) | (go_at_call 22; (with_reducible refine (of_c _ _ _).mono ?_); rintro e w' ⟨rfl, r, rfl⟩))
      go_returns
      exact ⟨rfl, (by repeat (first | exact More.refl _ | refine More.alloc ?_ _ | refine More.more ?_ _ | refine More.drew ?_ | refine More.drewN ?_ _))⟩
    · simp only [h, h1]
      go_enter Try.func18, Try.ntmps18
      go_wp2_with (first | (go_at_call 10; (with_reducible refine (none_c _).mono ?_); rintro e w' ⟨rfl, r, rfl⟩) | (go_at_call 15; (with_reducible refine (right_c _ _).mono ?_); rintro e w' ⟨rfl, r, rfl⟩) | (go_at_call 15; (with_reducible refine (right_c ⟨_, _, _⟩ _).mono ?_); rintro e w' ⟨rfl, r, rfl⟩) | (go_at_call 19; (with_reducible refine (in_c _ _).mono ?_); rintro e w' ⟨rfl, rfl⟩) | (go_at_call 22; (with_reducible refine (of_c _ _ _).mono ?_); rintro e w' ⟨rfl, r, rfl⟩))
      go_returns
      exact ⟨rfl, (by repeat (first | exact More.refl _ | refine More.alloc ?_ _ | refine More.more ?_ _ | refine More.drew ?_ | refine More.drewN ?_ _))⟩
  · simp only [h]
    go_enter Try.func18, Try.ntmps18
    go_wp2_with (first | (go_at_call 10; (with_reducible refine (none_c _).mono ?_); rintro e w' ⟨rfl, r, rfl⟩) | (go_at_call 15; (with_reducible refine (right_c _ _).mono ?_); rintro e w' ⟨rfl, r, rfl⟩) | (go_at_call 15; (with_reducible refine (right_c ⟨_, _, _⟩ _).mono ?_); rintro e w' ⟨rfl, r, rfl⟩) | (go_at_call 19; (with_reducible refine (in_c _ _).mono ?_); rintro e w' ⟨rfl, rfl⟩) | (go_at_call 22; (with_reducible refine (of_c _ _ _).mono ?_); rintro e w' ⟨rfl, r, rfl⟩))
    go_returns
    exact ⟨rfl, (by repeat (first | exact More.refl _ | refine More.alloc ?_ _ | refine More.more ?_ _ | refine More.drew ?_ | refine More.drewN ?_ _))⟩

set_option maxHeartbeats 4000000 in
theorem has_c (a : Iv) (n : Int) (W : World) :
    Calls Try.prog 14 #[ivV a, .int .i64 n] W fun e w' => e = .returned (.bool (ivHas a n)) ∧ More W w' := by
  unfold ivHas
  cases h0 : ivRight a <;> cases h1 : decide (a.lo ≤ n) <;> cases h2 : decide (n ≤ a.hi)
  all_goals
    go_enter Try.func14, Try.ntmps14
    go_wp2_with (first | (go_at_call 15; (with_reducible refine (right_c _ _).mono ?_); rintro e w' ⟨rfl, r, rfl⟩) | (go_at_call 15; (with_reducible refine (right_c ⟨_, _, _⟩ _).mono ?_); rintro e w' ⟨rfl, r, rfl⟩))
    go_returns
    exact ⟨rfl, (by repeat (first | exact More.refl _ | refine More.alloc ?_ _ | refine More.more ?_ _ | refine More.drew ?_ | refine More.drewN ?_ _))⟩

set_option maxHeartbeats 4000000 in
theorem inside_c (a b : Iv) (W : World) :
    Calls Try.prog 16 #[ivV a, ivV b] W fun e w' => e = .returned (.bool (ivInside a b)) ∧ More W w' := by
  unfold ivInside
  cases h0 : ivBoth a b <;> cases h1 : decide (b.lo ≤ a.lo) <;> cases h2 : decide (a.hi ≤ b.hi)
  all_goals
    go_enter Try.func16, Try.ntmps16
    go_wp2_with (first | (go_at_call 24; (with_reducible refine (both_c _ _ _).mono ?_); rintro e w' ⟨rfl, r, rfl⟩) | (go_at_call 24; (with_reducible refine (both_c _ ⟨_, _, _⟩ _).mono ?_); rintro e w' ⟨rfl, r, rfl⟩) | (go_at_call 24; (with_reducible refine (both_c ⟨_, _, _⟩ _ _).mono ?_); rintro e w' ⟨rfl, r, rfl⟩) | (go_at_call 24; (with_reducible refine (both_c ⟨_, _, _⟩ ⟨_, _, _⟩ _).mono ?_); rintro e w' ⟨rfl, r, rfl⟩))
    go_returns
    exact ⟨rfl, (by repeat (first | exact More.refl _ | refine More.alloc ?_ _ | refine More.more ?_ _ | refine More.drew ?_ | refine More.drewN ?_ _))⟩

end Go.Proofs.Ytglamojhaoiejaa

