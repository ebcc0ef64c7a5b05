/-
  The contracts of the plain saying of chapter 2: each call answers what the plain interval of the same name is.
-/
import Derived.Test.YtgkkfmjlgmoefaaRef
import Derived.Test.YtgkkfmjlgmoefaaReg3
import Derived.Test.YtgkkfmjlgmoefaaIvMath
namespace Go.Proofs.Ytgkkfmjlgmoefaa
set_option linter.unusedVariables false
open Go.ChangeShapes Go.WideShapes Go.ChangeAt Go.RowKit

set_option maxHeartbeats 4000000 in
theorem rright_c (a : Iv) (W : World) :
    Calls Try.prog 55 #[ivV a] W fun e w' => e = .returned (.bool (ivRight a)) ∧ More W w' := by
  unfold ivRight
  cases h0 : a.no <;> cases h1 : isIn a.lo <;> cases h2 : isIn a.hi <;> cases h3 : decide (a.lo ≤ a.hi)
  all_goals
    go_enter Try.func55, Try.ntmps55
    go_wp2_with (first | (go_at_call 70; (with_reducible refine (rin_c _ _).mono ?_); rintro e w' ⟨rfl, rfl⟩))
    go_returns
    exact ⟨rfl, (by repeat (first | exact More.refl _ | refine More.alloc ?_ _ | refine More.more ?_ _ | refine More.drew ?_ | refine More.drewN ?_ _))⟩

set_option maxHeartbeats 4000000 in
theorem rnone_c  (W : World) :
    Calls Try.prog 56 #[] W fun e w' => e = .returned (ivV ivNone) ∧ More W w' := by
  go_enter Try.func56, Try.ntmps56
  go_wp2_with fail
  go_returns
  exact ⟨rfl, (by repeat (first | exact More.refl _ | refine More.alloc ?_ _ | refine More.more ?_ _ | refine More.drew ?_ | refine More.drewN ?_ _))⟩

set_option maxHeartbeats 4000000 in
theorem rof_c (a b : Int) (W : World) :
    Calls Try.prog 71 #[.int .i64 a, .int .i64 b] W fun e w' => e = .returned (ivV (ivOf a b)) ∧ More W w' := by
  unfold ivOf
  by_cases h : ivRight ⟨a, b, false⟩ = true
  · rw [if_pos h]
    go_enter Try.func71, Try.ntmps71
    go_wp2_with (first | (go_at_call 55; (with_reducible refine (rright_c _ _).mono ?_); rintro e w' ⟨rfl, r, rfl⟩) | (go_at_call 55; (with_reducible refine (rright_c ⟨_, _, _⟩ _).mono ?_); rintro e w' ⟨rfl, r, rfl⟩) | (go_at_call 56; (with_reducible refine (rnone_c _).mono ?_); rintro e w' ⟨rfl, r, rfl⟩))
    go_returns
    exact ⟨rfl, (by repeat (first | exact More.refl _ | refine More.alloc ?_ _ | refine More.more ?_ _ | refine More.drew ?_ | refine More.drewN ?_ _))⟩
  · rw [if_neg h]
    go_enter Try.func71, Try.ntmps71
    go_wp2_with (first | (go_at_call 55; (with_reducible refine (rright_c _ _).mono ?_); rintro e w' ⟨rfl, r, rfl⟩) | (go_at_call 55; (with_reducible refine (rright_c ⟨_, _, _⟩ _).mono ?_); rintro e w' ⟨rfl, r, rfl⟩) | (go_at_call 56; (with_reducible refine (rnone_c _).mono ?_); rintro e w' ⟨rfl, r, rfl⟩))
    go_returns
    exact ⟨rfl, (by repeat (first | exact More.refl _ | refine More.alloc ?_ _ | refine More.more ?_ _ | refine More.drew ?_ | refine More.drewN ?_ _))⟩

set_option maxHeartbeats 4000000 in
theorem rpoint_c (n : Int) (W : World) :
    Calls Try.prog 52 #[.int .i64 n] W fun e w' => e = .returned (ivV (ivPoint n)) ∧ More W w' := by
  go_enter Try.func52, Try.ntmps52
  go_wp2_with (first | (go_at_call 71; (with_reducible refine (rof_c _ _ _).mono ?_); rintro e w' ⟨rfl, r, rfl⟩))
  go_returns
  exact ⟨rfl, (by repeat (first | exact More.refl _ | refine More.alloc ?_ _ | refine More.more ?_ _ | refine More.drew ?_ | refine More.drewN ?_ _))⟩

set_option maxHeartbeats 4000000 in
theorem rwhole_c (n : Int) (W : World) :
    Calls Try.prog 84 #[.int .i64 n] W fun e w' => e = .returned (ivV (ivWhole n)) ∧ More W w' := by
  unfold ivWhole
  by_cases h : isIn n = true
  · rw [if_pos h]
    have hb := isIn_iff.1 h
    go_enter Try.func84, Try.ntmps84
    go_wp2_with (first | (go_at_call 52; (with_reducible refine (rpoint_c _ _).mono ?_); rintro e w' ⟨rfl, r, rfl⟩) | (go_at_call 56; (with_reducible refine (rnone_c _).mono ?_); rintro e w' ⟨rfl, r, rfl⟩) | (go_at_call 70; (with_reducible refine (rin_c _ _).mono ?_); rintro e w' ⟨rfl, rfl⟩))
    go_returns
    exact ⟨rfl, (by repeat (first | exact More.refl _ | refine More.alloc ?_ _ | refine More.more ?_ _ | refine More.drew ?_ | refine More.drewN ?_ _))⟩
  · rw [if_neg h]
    go_enter Try.func84, Try.ntmps84
    go_wp2_with (first | (go_at_call 52; (with_reducible refine (rpoint_c _ _).mono ?_); rintro e w' ⟨rfl, r, rfl⟩) | (go_at_call 56; (with_reducible refine (rnone_c _).mono ?_); rintro e w' ⟨rfl, r, rfl⟩) | (go_at_call 70; (with_reducible refine (rin_c _ _).mono ?_); rintro e w' ⟨rfl, rfl⟩))
    go_returns
    exact ⟨rfl, (by repeat (first | exact More.refl _ | refine More.alloc ?_ _ | refine More.more ?_ _ | refine More.drew ?_ | refine More.drewN ?_ _))⟩

set_option maxHeartbeats 4000000 in
theorem radd_c (a b : Iv) (W : World) :
    Calls Try.prog 53 #[ivV a, ivV b] W fun e w' => e = .returned (ivV (ivAdd a b)) ∧ More W w' := by
  unfold ivAdd ivBoth
  cases h0 : ivRight a <;> cases h1 : ivRight b
  case true.true =>
    obtain ⟨⟨b1, b2⟩, ⟨b3, b4⟩, b5⟩ := right_bd h0
    obtain ⟨⟨c1, c2⟩, ⟨c3, c4⟩, c5⟩ := right_bd h1
    go_enter Try.func53, Try.ntmps53
    go_wp2_with (first | (go_at_call 55; (with_reducible refine (rright_c _ _).mono ?_); rintro e w' ⟨rfl, r, rfl⟩) | (go_at_call 55; (with_reducible refine (rright_c ⟨_, _, _⟩ _).mono ?_); rintro e w' ⟨rfl, r, rfl⟩) | (go_at_call 56; (with_reducible refine (rnone_c _).mono ?_); rintro e w' ⟨rfl, r, rfl⟩) | (go_at_call 71; (with_reducible refine (rof_c _ _ _).mono ?_); rintro e w' ⟨rfl, r, rfl⟩))
    go_returns
    exact ⟨rfl, (by repeat (first | exact More.refl _ | refine More.alloc ?_ _ | refine More.more ?_ _ | refine More.drew ?_ | refine More.drewN ?_ _))⟩
  all_goals
    go_enter Try.func53, Try.ntmps53
    go_wp2_with (first | (go_at_call 55; (with_reducible refine (rright_c _ _).mono ?_); rintro e w' ⟨rfl, r, rfl⟩) | (go_at_call 55; (with_reducible refine (rright_c ⟨_, _, _⟩ _).mono ?_); rintro e w' ⟨rfl, r, rfl⟩) | (go_at_call 56; (with_reducible refine (rnone_c _).mono ?_); rintro e w' ⟨rfl, r, rfl⟩) | (go_at_call 71; (with_reducible refine (rof_c _ _ _).mono ?_); rintro e w' ⟨rfl, r, rfl⟩))
    go_returns
    exact ⟨rfl, (by repeat (first | exact More.refl _ | refine More.alloc ?_ _ | refine More.more ?_ _ | refine More.drew ?_ | refine More.drewN ?_ _))⟩

set_option maxHeartbeats 4000000 in
theorem rsub_c (a b : Iv) (W : World) :
    Calls Try.prog 60 #[ivV a, ivV b] W fun e w' => e = .returned (ivV (ivSub a b)) ∧ More W w' := by
  rw [sub_eq]
  unfold ivBoth
  cases h0 : ivRight a <;> cases h1 : ivRight b
  case true.true =>
    obtain ⟨⟨b1, b2⟩, ⟨b3, b4⟩, b5⟩ := right_bd h0
    obtain ⟨⟨c1, c2⟩, ⟨c3, c4⟩, c5⟩ := right_bd h1
    go_enter Try.func60, Try.ntmps60
    go_wp2_with (first | (go_at_call 55; (with_reducible refine (rright_c _ _).mono ?_); rintro e w' ⟨rfl, r, rfl⟩) | (go_at_call 55; (with_reducible refine (rright_c ⟨_, _, _⟩ _).mono ?_); rintro e w' ⟨rfl, r, rfl⟩) | (go_at_call 56; (with_reducible refine (rnone_c _).mono ?_); rintro e w' ⟨rfl, r, rfl⟩) | (go_at_call 71; (with_reducible refine (rof_c _ _ _).mono ?_); rintro e w' ⟨rfl, r, rfl⟩))
    go_returns
    exact ⟨rfl, (by repeat (first | exact More.refl _ | refine More.alloc ?_ _ | refine More.more ?_ _ | refine More.drew ?_ | refine More.drewN ?_ _))⟩
  all_goals
    go_enter Try.func60, Try.ntmps60
    go_wp2_with (first | (go_at_call 55; (with_reducible refine (rright_c _ _).mono ?_); rintro e w' ⟨rfl, r, rfl⟩) | (go_at_call 55; (with_reducible refine (rright_c ⟨_, _, _⟩ _).mono ?_); rintro e w' ⟨rfl, r, rfl⟩) | (go_at_call 56; (with_reducible refine (rnone_c _).mono ?_); rintro e w' ⟨rfl, r, rfl⟩) | (go_at_call 71; (with_reducible refine (rof_c _ _ _).mono ?_); rintro e w' ⟨rfl, r, rfl⟩))
    go_returns
    exact ⟨rfl, (by repeat (first | exact More.refl _ | refine More.alloc ?_ _ | refine More.more ?_ _ | refine More.drew ?_ | refine More.drewN ?_ _))⟩

set_option maxHeartbeats 4000000 in
theorem rtimes_c (a : Iv) (k : Int) (W : World) :
    Calls Try.prog 51 #[ivV a, .int .i64 k] W fun e w' => e = .returned (ivV (ivTimes a k)) ∧ More W w' := by
  unfold ivTimes
  by_cases h : ivRight a = true
  · by_cases h1 : isIn k = true
    · rw [h, h1]
      obtain ⟨⟨b1, b2⟩, ⟨b3, b4⟩, b5⟩ := right_bd h
      have p1 := mul_bd (A := 1073741824) (B := 1073741824) (isIn_iff.1 h1) ⟨b1, b2⟩
      have p2 := mul_bd (A := 1073741824) (B := 1073741824) (isIn_iff.1 h1) ⟨b3, b4⟩
      go_enter Try.func51, Try.ntmps51
      go_wp2_with (first | (go_at_call 55; (with_reducible refine (rright_c _ _).mono ?_); rintro e w' ⟨rfl, r, rfl⟩) | (go_at_call 55; (with_reducible refine (rright_c ⟨_, _, _⟩ _).mono ?_); rintro e w' ⟨rfl, r, rfl⟩) | (go_at_call 56; (with_reducible refine (rnone_c _).mono ?_); rintro e w' ⟨rfl, r, rfl⟩) | (go_at_call 70; (with_reducible refine (rin_c _ _).mono ?_); rintro e w' ⟨rfl, rfl⟩) | (go_at_call 71; (with_reducible refine (rof_c _ _ _).mono ?_); rintro e w' ⟨rfl, r, rfl⟩))
      go_returns
      exact ⟨rfl, (by repeat (first | exact More.refl _ | refine More.alloc ?_ _ | refine More.more ?_ _ | refine More.drew ?_ | refine More.drewN ?_ _))⟩
    · simp only [h, h1]
      go_enter Try.func51, Try.ntmps51
      go_wp2_with (first | (go_at_call 55; (with_reducible refine (rright_c _ _).mono ?_); rintro e w' ⟨rfl, r, rfl⟩) | (go_at_call 55; (with_reducible refine (rright_c ⟨_, _, _⟩ _).mono ?_); rintro e w' ⟨rfl, r, rfl⟩) | (go_at_call 56; (with_reducible refine (rnone_c _).mono ?_); rintro e w' ⟨rfl, r, rfl⟩) | (go_at_call 70; (with_reducible refine (rin_c _ _).mono ?_); rintro e w' ⟨rfl, rfl⟩) | (go_at_call 71; (with_reducible refine (rof_c _ _ _).mono ?_); rintro e w' ⟨rfl, r, rfl⟩))
      go_returns
      exact ⟨rfl, (by repeat (first | exact More.refl _ | refine More.alloc ?_ _ | refine More.more ?_ _ | refine More.drew ?_ | refine More.drewN ?_ _))⟩
  · simp only [h]
    go_enter Try.func51, Try.ntmps51
    go_wp2_with (first | (go_at_call 55; (with_reducible refine (rright_c _ _).mono ?_); rintro e w' ⟨rfl, r, rfl⟩) | (go_at_call 55; (with_reducible refine (rright_c ⟨_, _, _⟩ _).mono ?_); rintro e w' ⟨rfl, r, rfl⟩) | (go_at_call 56; (with_reducible refine (rnone_c _).mono ?_); rintro e w' ⟨rfl, r, rfl⟩) | (go_at_call 70; (with_reducible refine (rin_c _ _).mono ?_); rintro e w' ⟨rfl, rfl⟩) | (go_at_call 71; (with_reducible refine (rof_c _ _ _).mono ?_); rintro e w' ⟨rfl, r, rfl⟩))
    go_returns
    exact ⟨rfl, (by repeat (first | exact More.refl _ | refine More.alloc ?_ _ | refine More.more ?_ _ | refine More.drew ?_ | refine More.drewN ?_ _))⟩

set_option maxHeartbeats 4000000 in
theorem rmeet_c (a b : Iv) (W : World) :
    Calls Try.prog 64 #[ivV a, ivV b] W fun e w' => e = .returned (ivV (ivMeet a b)) ∧ More W w' := by
  unfold ivMeet ivBoth
  cases h0 : ivRight a <;> cases h1 : ivRight b
  all_goals
    go_enter Try.func64, Try.ntmps64
    go_wp2_with (first | (go_at_call 55; (with_reducible refine (rright_c _ _).mono ?_); rintro e w' ⟨rfl, r, rfl⟩) | (go_at_call 55; (with_reducible refine (rright_c ⟨_, _, _⟩ _).mono ?_); rintro e w' ⟨rfl, r, rfl⟩) | (go_at_call 56; (with_reducible refine (rnone_c _).mono ?_); rintro e w' ⟨rfl, r, rfl⟩) | (go_at_call 71; (with_reducible refine (rof_c _ _ _).mono ?_); rintro e w' ⟨rfl, r, rfl⟩))
    go_returns
    exact ⟨rfl, (by repeat (first | exact More.refl _ | refine More.alloc ?_ _ | refine More.more ?_ _ | refine More.drew ?_ | refine More.drewN ?_ _))⟩

set_option maxHeartbeats 4000000 in
theorem rmid_c (a : Iv) (W : World) :
    Calls Try.prog 58 #[ivV a] W fun e w' => e = .returned (.int .i64 (ivMid a)) ∧ More W w' := by
  unfold ivMid
  by_cases h : ivRight a = true
  · rw [if_pos h]
    obtain ⟨⟨b1, b2⟩, ⟨b3, b4⟩, b5⟩ := right_bd h
    go_enter Try.func58, Try.ntmps58
    go_wp2_with (first | (go_at_call 55; (with_reducible refine (rright_c _ _).mono ?_); rintro e w' ⟨rfl, r, rfl⟩) | (go_at_call 55; (with_reducible refine (rright_c ⟨_, _, _⟩ _).mono ?_); rintro e w' ⟨rfl, r, rfl⟩) | (go_at_call 73; (with_reducible refine (rfloor_c _ _ (by omega) (by omega) (by omega) _).mono ?_); rintro e w' ⟨rfl, rfl⟩))
    go_returns
    exact ⟨rfl, (by repeat (first | exact More.refl _ | refine More.alloc ?_ _ | refine More.more ?_ _ | refine More.drew ?_ | refine More.drewN ?_ _))⟩
  · rw [if_neg h]
    go_enter Try.func58, Try.ntmps58
    go_wp2_with (first | (go_at_call 55; (with_reducible refine (rright_c _ _).mono ?_); rintro e w' ⟨rfl, r, rfl⟩) | (go_at_call 55; (with_reducible refine (rright_c ⟨_, _, _⟩ _).mono ?_); rintro e w' ⟨rfl, r, rfl⟩) | (go_at_call 73; (with_reducible refine (rfloor_c _ _ (by omega) (by omega) (by omega) _).mono ?_); rintro e w' ⟨rfl, rfl⟩))
    go_returns
    exact ⟨rfl, (by repeat (first | exact More.refl _ | refine More.alloc ?_ _ | refine More.more ?_ _ | refine More.drew ?_ | refine More.drewN ?_ _))⟩

set_option maxHeartbeats 4000000 in
theorem rhas_c (a : Iv) (n : Int) (W : World) :
    Calls Try.prog 77 #[ivV a, .int .i64 n] W fun e w' => e = .returned (.bool (ivHas a n)) ∧ More W w' := by
  unfold ivHas
  cases h0 : ivRight a <;> cases h1 : decide (a.lo ≤ n) <;> cases h2 : decide (n ≤ a.hi)
  all_goals
    go_enter Try.func77, Try.ntmps77
    go_wp2_with (first | (go_at_call 55; (with_reducible refine (rright_c _ _).mono ?_); rintro e w' ⟨rfl, r, rfl⟩) | (go_at_call 55; (with_reducible refine (rright_c ⟨_, _, _⟩ _).mono ?_); rintro e w' ⟨rfl, r, rfl⟩))
    go_returns
    exact ⟨rfl, (by repeat (first | exact More.refl _ | refine More.alloc ?_ _ | refine More.more ?_ _ | refine More.drew ?_ | refine More.drewN ?_ _))⟩

set_option maxHeartbeats 4000000 in
theorem rsplit_c (a : Iv) (W : World) :
    Calls Try.prog 62 #[ivV a] W fun e w' => e = .returned (.tuple #[ivV (ivSplit a).1, ivV (ivSplit a).2]) ∧ More W w' := by
  unfold ivSplit
  by_cases h : ivRight a = true
  · rw [if_pos h]
    go_enter Try.func62, Try.ntmps62
    go_wp2_with (first | (go_at_call 55; (with_reducible refine (rright_c _ _).mono ?_); rintro e w' ⟨rfl, r, rfl⟩) | (go_at_call 55; (with_reducible refine (rright_c ⟨_, _, _⟩ _).mono ?_); rintro e w' ⟨rfl, r, rfl⟩) | (go_at_call 56; (with_reducible refine (rnone_c _).mono ?_); rintro e w' ⟨rfl, r, rfl⟩) | (go_at_call 58; (with_reducible refine (rmid_c _ _).mono ?_); rintro e w' ⟨rfl, r, rfl⟩) | (go_at_call 58; (with_reducible refine (rmid_c ⟨_, _, _⟩ _).mono ?_); rintro e w' ⟨rfl, r, rfl⟩) | (go_at_call 71; (with_reducible refine (rof_c _ _ _).mono ?_); rintro e w' ⟨rfl, r, rfl⟩) | ((with_reducible show Code.wp _ (Code.region 3 _ true) _ _ _); (with_reducible refine wp_more_tailq_m (id := 3) 10 ?_ ?_ ?_); kernel_rfl; kernel_rfl; (try simp only [List.take_succ_cons, List.take_zero, List.drop_succ_cons, List.drop_zero]); (repeat (any_goals (first | go_big_quiet_step ((first | (go_at_call 55; (with_reducible apply quiet_call_b); (with_reducible exact rright_c _ _); with_reducible assumption) | (go_at_call 55; (with_reducible apply quiet_call); with_reducible exact rright_c _ _) | (go_at_call 55; (with_reducible apply quiet_call_b); (with_reducible exact rright_c ⟨_, _, _⟩ _); with_reducible assumption) | (go_at_call 55; (with_reducible apply quiet_call); with_reducible exact rright_c ⟨_, _, _⟩ _) | (go_at_call 56; (with_reducible apply quiet_call); with_reducible exact rnone_c _) | (go_at_call 58; (with_reducible apply quiet_call); with_reducible exact rmid_c _ _) | (go_at_call 58; (with_reducible apply quiet_call); with_reducible exact rmid_c ⟨_, _, _⟩ _) | (go_at_call 71; (with_reducible apply quiet_call); with_reducible exact rof_c _ _ _))) | quiet_step ((first | (go_at_call 55; (with_reducible apply quiet_call_b); (with_reducible exact rright_c _ _); with_reducible assumption) | (go_at_call 55; (with_reducible apply quiet_call); with_reducible exact rright_c _ _) | (go_at_call 55; (with_reducible apply quiet_call_b); (with_reducible exact rright_c ⟨_, _, _⟩ _); with_reducible assumption) | (go_at_call 55; (with_reducible apply quiet_call); with_reducible exact rright_c ⟨_, _, _⟩ _) | (go_at_call 56; (with_reducible apply quiet_call); with_reducible exact rnone_c _) | (go_at_call 58; (with_reducible apply quiet_call); with_reducible exact rmid_c _ _) | (go_at_call 58; (with_reducible apply quiet_call); with_reducible exact rmid_c ⟨_, _, _⟩ _) | (go_at_call 71; (with_reducible apply quiet_call); with_reducible exact rof_c _ _ _)))))); (with_reducible refine wpQuiet_nil ?_); intro r) | ((with_reducible show Code.wp _ (Code.region 3 _ true) _ _ _); (with_reducible refine wp_more_tailq (id := 3) 10 ?_ ?_ ?_); kernel_rfl; kernel_rfl; (try simp only [List.take_succ_cons, List.take_zero, List.drop_succ_cons, List.drop_zero]); (repeat (any_goals (first | go_big_quiet_step ((first | (go_at_call 55; (with_reducible apply quiet_call_b); (with_reducible exact rright_c _ _); with_reducible assumption) | (go_at_call 55; (with_reducible apply quiet_call); with_reducible exact rright_c _ _) | (go_at_call 55; (with_reducible apply quiet_call_b); (with_reducible exact rright_c ⟨_, _, _⟩ _); with_reducible assumption) | (go_at_call 55; (with_reducible apply quiet_call); with_reducible exact rright_c ⟨_, _, _⟩ _) | (go_at_call 56; (with_reducible apply quiet_call); with_reducible exact rnone_c _) | (go_at_call 58; (with_reducible apply quiet_call); with_reducible exact rmid_c _ _) | (go_at_call 58; (with_reducible apply quiet_call); with_reducible exact rmid_c ⟨_, _, _⟩ _) | (go_at_call 71; (with_reducible apply quiet_call); with_reducible exact rof_c _ _ _))) | quiet_step ((first | (go_at_call 55; (with_reducible apply quiet_call_b); (with_reducible exact rright_c _ _); with_reducible assumption) | (go_at_call 55; (with_reducible apply quiet_call); with_reducible exact rright_c _ _) | (go_at_call 55; (with_reducible apply quiet_call_b); (with_reducible exact rright_c ⟨_, _, _⟩ _); with_reducible assumption) | (go_at_call 55; (with_reducible apply quiet_call); with_reducible exact rright_c ⟨_, _, _⟩ _) | (go_at_call 56; (with_reducible apply quiet_call); with_reducible exact rnone_c _) | (go_at_call 58; (with_reducible apply quiet_call); with_reducible exact rmid_c _ _) | (go_at_call 58; (with_reducible apply quiet_call); with_reducible exact rmid_c ⟨_, _, _⟩ _) | (go_at_call 71; (with_reducible apply quiet_call); with_reducible exact rof_c _ _ _)))))); (with_reducible refine wpQuiet_nil ?_); intro r))
    go_returns
    exact ⟨rfl, (by repeat (first | exact More.refl _ | refine More.alloc ?_ _ | refine More.more ?_ _ | refine More.drew ?_ | refine More.drewN ?_ _))⟩
  · rw [if_neg h]
    go_enter Try.func62, Try.ntmps62
    go_wp2_with (first | (go_at_call 55; (with_reducible refine (rright_c _ _).mono ?_); rintro e w' ⟨rfl, r, rfl⟩) | (go_at_call 55; (with_reducible refine (rright_c ⟨_, _, _⟩ _).mono ?_); rintro e w' ⟨rfl, r, rfl⟩) | (go_at_call 56; (with_reducible refine (rnone_c _).mono ?_); rintro e w' ⟨rfl, r, rfl⟩) | (go_at_call 58; (with_reducible refine (rmid_c _ _).mono ?_); rintro e w' ⟨rfl, r, rfl⟩) | (go_at_call 58; (with_reducible refine (rmid_c ⟨_, _, _⟩ _).mono ?_); rintro e w' ⟨rfl, r, rfl⟩) | (go_at_call 71; (with_reducible refine (rof_c _ _ _).mono ?_); rintro e w' ⟨rfl, r, rfl⟩) | ((with_reducible show Code.wp _ (Code.region 3 _ true) _ _ _); (with_reducible refine wp_more_tailq_m (id := 3) 10 ?_ ?_ ?_); kernel_rfl; kernel_rfl; (try simp only [List.take_succ_cons, List.take_zero, List.drop_succ_cons, List.drop_zero]); (repeat (any_goals (first | go_big_quiet_step ((first | (go_at_call 55; (with_reducible apply quiet_call_b); (with_reducible exact rright_c _ _); with_reducible assumption) | (go_at_call 55; (with_reducible apply quiet_call); with_reducible exact rright_c _ _) | (go_at_call 55; (with_reducible apply quiet_call_b); (with_reducible exact rright_c ⟨_, _, _⟩ _); with_reducible assumption) | (go_at_call 55; (with_reducible apply quiet_call); with_reducible exact rright_c ⟨_, _, _⟩ _) | (go_at_call 56; (with_reducible apply quiet_call); with_reducible exact rnone_c _) | (go_at_call 58; (with_reducible apply quiet_call); with_reducible exact rmid_c _ _) | (go_at_call 58; (with_reducible apply quiet_call); with_reducible exact rmid_c ⟨_, _, _⟩ _) | (go_at_call 71; (with_reducible apply quiet_call); with_reducible exact rof_c _ _ _))) | quiet_step ((first | (go_at_call 55; (with_reducible apply quiet_call_b); (with_reducible exact rright_c _ _); with_reducible assumption) | (go_at_call 55; (with_reducible apply quiet_call); with_reducible exact rright_c _ _) | (go_at_call 55; (with_reducible apply quiet_call_b); (with_reducible exact rright_c ⟨_, _, _⟩ _); with_reducible assumption) | (go_at_call 55; (with_reducible apply quiet_call); with_reducible exact rright_c ⟨_, _, _⟩ _) | (go_at_call 56; (with_reducible apply quiet_call); with_reducible exact rnone_c _) | (go_at_call 58; (with_reducible apply quiet_call); with_reducible exact rmid_c _ _) | (go_at_call 58; (with_reducible apply quiet_call); with_reducible exact rmid_c ⟨_, _, _⟩ _) | (go_at_call 71; (with_reducible apply quiet_call); with_reducible exact rof_c _ _ _)))))); (with_reducible refine wpQuiet_nil ?_); intro r) | ((with_reducible show Code.wp _ (Code.region 3 _ true) _ _ _); (with_reducible refine wp_more_tailq (id := 3) 10 ?_ ?_ ?_); kernel_rfl; kernel_rfl; (try simp only [List.take_succ_cons, List.take_zero, List.drop_succ_cons, List.drop_zero]); (repeat (any_goals (first | go_big_quiet_step ((first | (go_at_call 55; (with_reducible apply quiet_call_b); (with_reducible exact rright_c _ _); with_reducible assumption) | (go_at_call 55; (with_reducible apply quiet_call); with_reducible exact rright_c _ _) | (go_at_call 55; (with_reducible apply quiet_call_b); (with_reducible exact rright_c ⟨_, _, _⟩ _); with_reducible assumption) | (go_at_call 55; (with_reducible apply quiet_call); with_reducible exact rright_c ⟨_, _, _⟩ _) | (go_at_call 56; (with_reducible apply quiet_call); with_reducible exact rnone_c _) | (go_at_call 58; (with_reducible apply quiet_call); with_reducible exact rmid_c _ _) | (go_at_call 58; (with_reducible apply quiet_call); with_reducible exact rmid_c ⟨_, _, _⟩ _) | (go_at_call 71; (with_reducible apply quiet_call); with_reducible exact rof_c _ _ _))) | quiet_step ((first | (go_at_call 55; (with_reducible apply quiet_call_b); (with_reducible exact rright_c _ _); with_reducible assumption) | (go_at_call 55; (with_reducible apply quiet_call); with_reducible exact rright_c _ _) | (go_at_call 55; (with_reducible apply quiet_call_b); (with_reducible exact rright_c ⟨_, _, _⟩ _); with_reducible assumption) | (go_at_call 55; (with_reducible apply quiet_call); with_reducible exact rright_c ⟨_, _, _⟩ _) | (go_at_call 56; (with_reducible apply quiet_call); with_reducible exact rnone_c _) | (go_at_call 58; (with_reducible apply quiet_call); with_reducible exact rmid_c _ _) | (go_at_call 58; (with_reducible apply quiet_call); with_reducible exact rmid_c ⟨_, _, _⟩ _) | (go_at_call 71; (with_reducible apply quiet_call); with_reducible exact rof_c _ _ _)))))); (with_reducible refine wpQuiet_nil ?_); intro r))
    go_returns
    exact ⟨rfl, (by repeat (first | exact More.refl _ | refine More.alloc ?_ _ | refine More.more ?_ _ | refine More.drew ?_ | refine More.drewN ?_ _))⟩

set_option maxHeartbeats 4000000 in
theorem riroot_c (a : Iv) (W : World) :
    Calls Try.prog 83 #[ivV a] W fun e w' => e = .returned (ivV (ivRoot a)) ∧ More W w' := by
  rw [root_eq]
  by_cases h : ivRight a = true
  · by_cases h0 : a.lo < 0
    · simp only [h, h0]
      go_enter Try.func83, Try.ntmps83
      go_wp2_with (first | (go_at_call 55; (with_reducible refine (rright_c _ _).mono ?_); rintro e w' ⟨rfl, r, rfl⟩) | (go_at_call 55; (with_reducible refine (rright_c ⟨_, _, _⟩ _).mono ?_); rintro e w' ⟨rfl, r, rfl⟩) | (go_at_call 56; (with_reducible refine (rnone_c _).mono ?_); rintro e w' ⟨rfl, r, rfl⟩) | (go_at_call 71; (with_reducible refine (rof_c _ _ _).mono ?_); rintro e w' ⟨rfl, r, rfl⟩) | (go_at_call 89; (with_reducible refine (rroot_c _ _ _).mono ?_); rintro e w' ⟨rfl, rfl⟩))
      go_returns
      exact ⟨rfl, (by repeat (first | exact More.refl _ | refine More.alloc ?_ _ | refine More.more ?_ _ | refine More.drew ?_ | refine More.drewN ?_ _))⟩
    · simp only [h, h0]
      go_enter Try.func83, Try.ntmps83
      go_wp2_with (first | (go_at_call 55; (with_reducible refine (rright_c _ _).mono ?_); rintro e w' ⟨rfl, r, rfl⟩) | (go_at_call 55; (with_reducible refine (rright_c ⟨_, _, _⟩ _).mono ?_); rintro e w' ⟨rfl, r, rfl⟩) | (go_at_call 56; (with_reducible refine (rnone_c _).mono ?_); rintro e w' ⟨rfl, r, rfl⟩) | (go_at_call 71; (with_reducible refine (rof_c _ _ _).mono ?_); rintro e w' ⟨rfl, r, rfl⟩) | (go_at_call 89; (with_reducible refine (rroot_c _ _ _).mono ?_); rintro e w' ⟨rfl, rfl⟩))
      go_returns
      exact ⟨rfl, (by repeat (first | exact More.refl _ | refine More.alloc ?_ _ | refine More.more ?_ _ | refine More.drew ?_ | refine More.drewN ?_ _))⟩
  · simp only [h]
    go_enter Try.func83, Try.ntmps83
    go_wp2_with (first | (go_at_call 55; (with_reducible refine (rright_c _ _).mono ?_); rintro e w' ⟨rfl, r, rfl⟩) | (go_at_call 55; (with_reducible refine (rright_c ⟨_, _, _⟩ _).mono ?_); rintro e w' ⟨rfl, r, rfl⟩) | (go_at_call 56; (with_reducible refine (rnone_c _).mono ?_); rintro e w' ⟨rfl, r, rfl⟩) | (go_at_call 71; (with_reducible refine (rof_c _ _ _).mono ?_); rintro e w' ⟨rfl, r, rfl⟩) | (go_at_call 89; (with_reducible refine (rroot_c _ _ _).mono ?_); rintro e w' ⟨rfl, rfl⟩))
    go_returns
    exact ⟨rfl, (by repeat (first | exact More.refl _ | refine More.alloc ?_ _ | refine More.more ?_ _ | refine More.drew ?_ | refine More.drewN ?_ _))⟩

end Go.Proofs.Ytgkkfmjlgmoefaa

