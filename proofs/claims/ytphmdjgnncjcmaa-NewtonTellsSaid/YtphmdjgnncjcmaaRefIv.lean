/-
  The contracts of the plain saying of chapter 2: each call answers what the plain interval of the same name is.
-/
import Derived.Test.YtphmdjgnncjcmaaRef
import Derived.Test.YtphmdjgnncjcmaaReg3
import Derived.Test.YtphmdjgnncjcmaaIvMath
namespace Go.Proofs.Ytphmdjgnncjcmaa
set_option linter.unusedVariables false
open Go.ChangeShapes Go.WideShapes Go.ChangeAt Go.RowKit

set_option maxHeartbeats 4000000 in
theorem rright_c (a : Iv) (W : World) :
    Calls Try.prog 49 #[ivV a] W fun e w' => e = .returned (.bool (ivRight a)) ∧ More W w' := by
  unfold ivRight
  cases h0 : a.no <;> cases h1 : isIn a.lo <;> cases h2 : isIn a.hi <;> cases h3 : decide (a.lo ≤ a.hi)
  all_goals
    go_enter Try.func49, Try.ntmps49
    go_wp2_with (first | (go_at_call 64; (with_reducible refine (rin_c _ _).mono ?_); rintro e w' ⟨rfl, rfl⟩))
    go_returns
    exact ⟨rfl, (by repeat (first | exact More.refl _ | refine More.alloc ?_ _ | refine More.more ?_ _ | refine More.drew ?_ | refine More.drewN ?_ _))⟩

set_option maxHeartbeats 4000000 in
theorem rnone_c  (W : World) :
    Calls Try.prog 50 #[] W fun e w' => e = .returned (ivV ivNone) ∧ More W w' := by
  go_enter Try.func50, Try.ntmps50
  go_wp2_with fail
  go_returns
  exact ⟨rfl, (by repeat (first | exact More.refl _ | refine More.alloc ?_ _ | refine More.more ?_ _ | refine More.drew ?_ | refine More.drewN ?_ _))⟩

set_option maxHeartbeats 4000000 in
theorem rof_c (a b : Int) (W : World) :
    Calls Try.prog 65 #[.int .i64 a, .int .i64 b] W fun e w' => e = .returned (ivV (ivOf a b)) ∧ More W w' := by
  unfold ivOf
  by_cases h : ivRight ⟨a, b, false⟩ = true
  · rw [if_pos h]
    go_enter Try.func65, Try.ntmps65
    go_wp2_with (first | (go_at_call 49; (with_reducible refine (rright_c _ _).mono ?_); rintro e w' ⟨rfl, r, rfl⟩) | (go_at_call 49; (with_reducible refine (rright_c ⟨_, _, _⟩ _).mono ?_); rintro e w' ⟨rfl, r, rfl⟩) | (go_at_call 50; (with_reducible refine (rnone_c _).mono ?_); rintro e w' ⟨rfl, r, rfl⟩))
    go_returns
    exact ⟨rfl, (by repeat (first | exact More.refl _ | refine More.alloc ?_ _ | refine More.more ?_ _ | refine More.drew ?_ | refine More.drewN ?_ _))⟩
  · rw [if_neg h]
    go_enter Try.func65, Try.ntmps65
    go_wp2_with (first | (go_at_call 49; (with_reducible refine (rright_c _ _).mono ?_); rintro e w' ⟨rfl, r, rfl⟩) | (go_at_call 49; (with_reducible refine (rright_c ⟨_, _, _⟩ _).mono ?_); rintro e w' ⟨rfl, r, rfl⟩) | (go_at_call 50; (with_reducible refine (rnone_c _).mono ?_); rintro e w' ⟨rfl, r, rfl⟩))
    go_returns
    exact ⟨rfl, (by repeat (first | exact More.refl _ | refine More.alloc ?_ _ | refine More.more ?_ _ | refine More.drew ?_ | refine More.drewN ?_ _))⟩

set_option maxHeartbeats 4000000 in
theorem rpoint_c (n : Int) (W : World) :
    Calls Try.prog 46 #[.int .i64 n] W fun e w' => e = .returned (ivV (ivPoint n)) ∧ More W w' := by
  go_enter Try.func46, Try.ntmps46
  go_wp2_with (first | (go_at_call 65; (with_reducible refine (rof_c _ _ _).mono ?_); rintro e w' ⟨rfl, r, rfl⟩))
  go_returns
  exact ⟨rfl, (by repeat (first | exact More.refl _ | refine More.alloc ?_ _ | refine More.more ?_ _ | refine More.drew ?_ | refine More.drewN ?_ _))⟩

set_option maxHeartbeats 4000000 in
theorem rwhole_c (n : Int) (W : World) :
    Calls Try.prog 78 #[.int .i64 n] W fun e w' => e = .returned (ivV (ivWhole n)) ∧ More W w' := by
  unfold ivWhole
  by_cases h : isIn n = true
  · rw [if_pos h]
    have hb := isIn_iff.1 h
    go_enter Try.func78, Try.ntmps78
    go_wp2_with (first | (go_at_call 46; (with_reducible refine (rpoint_c _ _).mono ?_); rintro e w' ⟨rfl, r, rfl⟩) | (go_at_call 50; (with_reducible refine (rnone_c _).mono ?_); rintro e w' ⟨rfl, r, rfl⟩) | (go_at_call 64; (with_reducible refine (rin_c _ _).mono ?_); rintro e w' ⟨rfl, rfl⟩))
    go_returns
    exact ⟨rfl, (by repeat (first | exact More.refl _ | refine More.alloc ?_ _ | refine More.more ?_ _ | refine More.drew ?_ | refine More.drewN ?_ _))⟩
  · rw [if_neg h]
    go_enter Try.func78, Try.ntmps78
    go_wp2_with (first | (go_at_call 46; (with_reducible refine (rpoint_c _ _).mono ?_); rintro e w' ⟨rfl, r, rfl⟩) | (go_at_call 50; (with_reducible refine (rnone_c _).mono ?_); rintro e w' ⟨rfl, r, rfl⟩) | (go_at_call 64; (with_reducible refine (rin_c _ _).mono ?_); rintro e w' ⟨rfl, rfl⟩))
    go_returns
    exact ⟨rfl, (by repeat (first | exact More.refl _ | refine More.alloc ?_ _ | refine More.more ?_ _ | refine More.drew ?_ | refine More.drewN ?_ _))⟩

set_option maxHeartbeats 4000000 in
theorem radd_c (a b : Iv) (W : World) :
    Calls Try.prog 47 #[ivV a, ivV b] W fun e w' => e = .returned (ivV (ivAdd a b)) ∧ More W w' := by
  unfold ivAdd ivBoth
  cases h0 : ivRight a <;> cases h1 : ivRight b
  case true.true =>
    obtain ⟨⟨b1, b2⟩, ⟨b3, b4⟩, b5⟩ := right_bd h0
    obtain ⟨⟨c1, c2⟩, ⟨c3, c4⟩, c5⟩ := right_bd h1
    go_enter Try.func47, Try.ntmps47
    go_wp2_with (first | (go_at_call 49; (with_reducible refine (rright_c _ _).mono ?_); rintro e w' ⟨rfl, r, rfl⟩) | (go_at_call 49; (with_reducible refine (rright_c ⟨_, _, _⟩ _).mono ?_); rintro e w' ⟨rfl, r, rfl⟩) | (go_at_call 50; (with_reducible refine (rnone_c _).mono ?_); rintro e w' ⟨rfl, r, rfl⟩) | (go_at_call 65; (with_reducible refine (rof_c _ _ _).mono ?_); rintro e w' ⟨rfl, r, rfl⟩))
    go_returns
    exact ⟨rfl, (by repeat (first | exact More.refl _ | refine More.alloc ?_ _ | refine More.more ?_ _ | refine More.drew ?_ | refine More.drewN ?_ _))⟩
  all_goals
    go_enter Try.func47, Try.ntmps47
    go_wp2_with (first | (go_at_call 49; (with_reducible refine (rright_c _ _).mono ?_); rintro e w' ⟨rfl, r, rfl⟩) | (go_at_call 49; (with_reducible refine (rright_c ⟨_, _, _⟩ _).mono ?_); rintro e w' ⟨rfl, r, rfl⟩) | (go_at_call 50; (with_reducible refine (rnone_c _).mono ?_); rintro e w' ⟨rfl, r, rfl⟩) | (go_at_call 65; (with_reducible refine (rof_c _ _ _).mono ?_); rintro e w' ⟨rfl, r, rfl⟩))
    go_returns
    exact ⟨rfl, (by repeat (first | exact More.refl _ | refine More.alloc ?_ _ | refine More.more ?_ _ | refine More.drew ?_ | refine More.drewN ?_ _))⟩

set_option maxHeartbeats 4000000 in
theorem rsub_c (a b : Iv) (W : World) :
    Calls Try.prog 54 #[ivV a, ivV b] W fun e w' => e = .returned (ivV (ivSub a b)) ∧ More W w' := by
  rw [sub_eq]
  unfold ivBoth
  cases h0 : ivRight a <;> cases h1 : ivRight b
  case true.true =>
    obtain ⟨⟨b1, b2⟩, ⟨b3, b4⟩, b5⟩ := right_bd h0
    obtain ⟨⟨c1, c2⟩, ⟨c3, c4⟩, c5⟩ := right_bd h1
    go_enter Try.func54, Try.ntmps54
    go_wp2_with (first | (go_at_call 49; (with_reducible refine (rright_c _ _).mono ?_); rintro e w' ⟨rfl, r, rfl⟩) | (go_at_call 49; (with_reducible refine (rright_c ⟨_, _, _⟩ _).mono ?_); rintro e w' ⟨rfl, r, rfl⟩) | (go_at_call 50; (with_reducible refine (rnone_c _).mono ?_); rintro e w' ⟨rfl, r, rfl⟩) | (go_at_call 65; (with_reducible refine (rof_c _ _ _).mono ?_); rintro e w' ⟨rfl, r, rfl⟩))
    go_returns
    exact ⟨rfl, (by repeat (first | exact More.refl _ | refine More.alloc ?_ _ | refine More.more ?_ _ | refine More.drew ?_ | refine More.drewN ?_ _))⟩
  all_goals
    go_enter Try.func54, Try.ntmps54
    go_wp2_with (first | (go_at_call 49; (with_reducible refine (rright_c _ _).mono ?_); rintro e w' ⟨rfl, r, rfl⟩) | (go_at_call 49; (with_reducible refine (rright_c ⟨_, _, _⟩ _).mono ?_); rintro e w' ⟨rfl, r, rfl⟩) | (go_at_call 50; (with_reducible refine (rnone_c _).mono ?_); rintro e w' ⟨rfl, r, rfl⟩) | (go_at_call 65; (with_reducible refine (rof_c _ _ _).mono ?_); rintro e w' ⟨rfl, r, rfl⟩))
    go_returns
    exact ⟨rfl, (by repeat (first | exact More.refl _ | refine More.alloc ?_ _ | refine More.more ?_ _ | refine More.drew ?_ | refine More.drewN ?_ _))⟩

set_option maxHeartbeats 4000000 in
theorem rtimes_c (a : Iv) (k : Int) (W : World) :
    Calls Try.prog 45 #[ivV a, .int .i64 k] W fun e w' => e = .returned (ivV (ivTimes a k)) ∧ More W w' := by
  unfold ivTimes
  by_cases h : ivRight a = true
  · by_cases h1 : isIn k = true
    · rw [h, h1]
      obtain ⟨⟨b1, b2⟩, ⟨b3, b4⟩, b5⟩ := right_bd h
      have p1 := mul_bd (A := 1073741824) (B := 1073741824) (isIn_iff.1 h1) ⟨b1, b2⟩
      have p2 := mul_bd (A := 1073741824) (B := 1073741824) (isIn_iff.1 h1) ⟨b3, b4⟩
      go_enter Try.func45, Try.ntmps45
      go_wp2_with (first | (go_at_call 49; (with_reducible refine (rright_c _ _).mono ?_); rintro e w' ⟨rfl, r, rfl⟩) | (go_at_call 49; (with_reducible refine (rright_c ⟨_, _, _⟩ _).mono ?_); rintro e w' ⟨rfl, r, rfl⟩) | (go_at_call 50; (with_reducible refine (rnone_c _).mono ?_); rintro e w' ⟨rfl, r, rfl⟩) | (go_at_call 64; (with_reducible refine (rin_c _ _).mono ?_); rintro e w' ⟨rfl, rfl⟩) | (go_at_call 65; (with_reducible refine (rof_c _ _ _).mono ?_); rintro e w' ⟨rfl, r, rfl⟩))
      go_returns
      exact ⟨rfl, (by repeat (first | exact More.refl _ | refine More.alloc ?_ _ | refine More.more ?_ _ | refine More.drew ?_ | refine More.drewN ?_ _))⟩
    · simp only [h, h1]
      go_enter Try.func45, Try.ntmps45
      go_wp2_with (first | (go_at_call 49; (with_reducible refine (rright_c _ _).mono ?_); rintro e w' ⟨rfl, r, rfl⟩) | (go_at_call 49; (with_reducible refine (rright_c ⟨_, _, _⟩ _).mono ?_); rintro e w' ⟨rfl, r, rfl⟩) | (go_at_call 50; (with_reducible refine (rnone_c _).mono ?_); rintro e w' ⟨rfl, r, rfl⟩) | (go_at_call 64; (with_reducible refine (rin_c _ _).mono ?_); rintro e w' ⟨rfl, rfl⟩) | (go_at_call 65; (with_reducible refine (rof_c _ _ _).mono ?_); rintro e w' ⟨rfl, r, rfl⟩))
      go_returns
      exact ⟨rfl, (by repeat (first | exact More.refl _ | refine More.alloc ?_ _ | refine More.more ?_ _ | refine More.drew ?_ | refine More.drewN ?_ _))⟩
  · simp only [h]
    go_enter Try.func45, Try.ntmps45
    go_wp2_with (first | (go_at_call 49; (with_reducible refine (rright_c _ _).mono ?_); rintro e w' ⟨rfl, r, rfl⟩) | (go_at_call 49; (with_reducible refine (rright_c ⟨_, _, _⟩ _).mono ?_); rintro e w' ⟨rfl, r, rfl⟩) | (go_at_call 50; (with_reducible refine (rnone_c _).mono ?_); rintro e w' ⟨rfl, r, rfl⟩) | (go_at_call 64; (with_reducible refine (rin_c _ _).mono ?_); rintro e w' ⟨rfl, rfl⟩) | (go_at_call 65; (with_reducible refine (rof_c _ _ _).mono ?_); rintro e w' ⟨rfl, r, rfl⟩))
    go_returns
    exact ⟨rfl, (by repeat (first | exact More.refl _ | refine More.alloc ?_ _ | refine More.more ?_ _ | refine More.drew ?_ | refine More.drewN ?_ _))⟩

set_option maxHeartbeats 4000000 in
theorem rmeet_c (a b : Iv) (W : World) :
    Calls Try.prog 58 #[ivV a, ivV b] W fun e w' => e = .returned (ivV (ivMeet a b)) ∧ More W w' := by
  unfold ivMeet ivBoth
  cases h0 : ivRight a <;> cases h1 : ivRight b
  all_goals
    go_enter Try.func58, Try.ntmps58
    go_wp2_with (first | (go_at_call 49; (with_reducible refine (rright_c _ _).mono ?_); rintro e w' ⟨rfl, r, rfl⟩) | (go_at_call 49; (with_reducible refine (rright_c ⟨_, _, _⟩ _).mono ?_); rintro e w' ⟨rfl, r, rfl⟩) | (go_at_call 50; (with_reducible refine (rnone_c _).mono ?_); rintro e w' ⟨rfl, r, rfl⟩) | (go_at_call 65; (with_reducible refine (rof_c _ _ _).mono ?_); rintro e w' ⟨rfl, r, rfl⟩))
    go_returns
    exact ⟨rfl, (by repeat (first | exact More.refl _ | refine More.alloc ?_ _ | refine More.more ?_ _ | refine More.drew ?_ | refine More.drewN ?_ _))⟩

set_option maxHeartbeats 4000000 in
theorem rmid_c (a : Iv) (W : World) :
    Calls Try.prog 52 #[ivV a] W fun e w' => e = .returned (.int .i64 (ivMid a)) ∧ More W w' := by
  unfold ivMid
  by_cases h : ivRight a = true
  · rw [if_pos h]
    obtain ⟨⟨b1, b2⟩, ⟨b3, b4⟩, b5⟩ := right_bd h
    go_enter Try.func52, Try.ntmps52
    go_wp2_with (first | (go_at_call 49; (with_reducible refine (rright_c _ _).mono ?_); rintro e w' ⟨rfl, r, rfl⟩) | (go_at_call 49; (with_reducible refine (rright_c ⟨_, _, _⟩ _).mono ?_); rintro e w' ⟨rfl, r, rfl⟩) | (go_at_call 67; (with_reducible refine (rfloor_c _ _ (by omega) (by omega) (by omega) _).mono ?_); rintro e w' ⟨rfl, rfl⟩))
    go_returns
    exact ⟨rfl, (by repeat (first | exact More.refl _ | refine More.alloc ?_ _ | refine More.more ?_ _ | refine More.drew ?_ | refine More.drewN ?_ _))⟩
  · rw [if_neg h]
    go_enter Try.func52, Try.ntmps52
    go_wp2_with (first | (go_at_call 49; (with_reducible refine (rright_c _ _).mono ?_); rintro e w' ⟨rfl, r, rfl⟩) | (go_at_call 49; (with_reducible refine (rright_c ⟨_, _, _⟩ _).mono ?_); rintro e w' ⟨rfl, r, rfl⟩) | (go_at_call 67; (with_reducible refine (rfloor_c _ _ (by omega) (by omega) (by omega) _).mono ?_); rintro e w' ⟨rfl, rfl⟩))
    go_returns
    exact ⟨rfl, (by repeat (first | exact More.refl _ | refine More.alloc ?_ _ | refine More.more ?_ _ | refine More.drew ?_ | refine More.drewN ?_ _))⟩

set_option maxHeartbeats 4000000 in
theorem rhas_c (a : Iv) (n : Int) (W : World) :
    Calls Try.prog 71 #[ivV a, .int .i64 n] W fun e w' => e = .returned (.bool (ivHas a n)) ∧ More W w' := by
  unfold ivHas
  cases h0 : ivRight a <;> cases h1 : decide (a.lo ≤ n) <;> cases h2 : decide (n ≤ a.hi)
  all_goals
    go_enter Try.func71, Try.ntmps71
    go_wp2_with (first | (go_at_call 49; (with_reducible refine (rright_c _ _).mono ?_); rintro e w' ⟨rfl, r, rfl⟩) | (go_at_call 49; (with_reducible refine (rright_c ⟨_, _, _⟩ _).mono ?_); rintro e w' ⟨rfl, r, rfl⟩))
    go_returns
    exact ⟨rfl, (by repeat (first | exact More.refl _ | refine More.alloc ?_ _ | refine More.more ?_ _ | refine More.drew ?_ | refine More.drewN ?_ _))⟩

set_option maxHeartbeats 4000000 in
theorem rsplit_c (a : Iv) (W : World) :
    Calls Try.prog 56 #[ivV a] W fun e w' => e = .returned (.tuple #[ivV (ivSplit a).1, ivV (ivSplit a).2]) ∧ More W w' := by
  unfold ivSplit
  by_cases h : ivRight a = true
  · rw [if_pos h]
    go_enter Try.func56, Try.ntmps56
    go_wp2_with (first | (go_at_call 49; (with_reducible refine (rright_c _ _).mono ?_); rintro e w' ⟨rfl, r, rfl⟩) | (go_at_call 49; (with_reducible refine (rright_c ⟨_, _, _⟩ _).mono ?_); rintro e w' ⟨rfl, r, rfl⟩) | (go_at_call 50; (with_reducible refine (rnone_c _).mono ?_); rintro e w' ⟨rfl, r, rfl⟩) | (go_at_call 52; (with_reducible refine (rmid_c _ _).mono ?_); rintro e w' ⟨rfl, r, rfl⟩) | (go_at_call 52; (with_reducible refine (rmid_c ⟨_, _, _⟩ _).mono ?_); rintro e w' ⟨rfl, r, rfl⟩) | (go_at_call 65; (with_reducible refine (rof_c _ _ _).mono ?_); rintro e w' ⟨rfl, r, rfl⟩) | ((with_reducible show Code.wp _ (Code.region 3 _ true) _ _ _); (with_reducible refine wp_more_tailq_m (id := 3) 10 ?_ ?_ ?_); kernel_rfl; kernel_rfl; (try simp only [List.take_succ_cons, List.take_zero, List.drop_succ_cons, List.drop_zero]); (repeat (any_goals (first | go_big_quiet_step ((first | (go_at_call 49; (with_reducible apply quiet_call_b); (with_reducible exact rright_c _ _); with_reducible assumption) | (go_at_call 49; (with_reducible apply quiet_call); with_reducible exact rright_c _ _) | (go_at_call 49; (with_reducible apply quiet_call_b); (with_reducible exact rright_c ⟨_, _, _⟩ _); with_reducible assumption) | (go_at_call 49; (with_reducible apply quiet_call); with_reducible exact rright_c ⟨_, _, _⟩ _) | (go_at_call 50; (with_reducible apply quiet_call); with_reducible exact rnone_c _) | (go_at_call 52; (with_reducible apply quiet_call); with_reducible exact rmid_c _ _) | (go_at_call 52; (with_reducible apply quiet_call); with_reducible exact rmid_c ⟨_, _, _⟩ _) | (go_at_call 65; (with_reducible apply quiet_call); with_reducible exact rof_c _ _ _))) | quiet_step ((first | (go_at_call 49; (with_reducible apply quiet_call_b); (with_reducible exact rright_c _ _); with_reducible assumption) | (go_at_call 49; (with_reducible apply quiet_call); with_reducible exact rright_c _ _) | (go_at_call 49; (with_reducible apply quiet_call_b); (with_reducible exact rright_c ⟨_, _, _⟩ _); with_reducible assumption) | (go_at_call 49; (with_reducible apply quiet_call); with_reducible exact rright_c ⟨_, _, _⟩ _) | (go_at_call 50; (with_reducible apply quiet_call); with_reducible exact rnone_c _) | (go_at_call 52; (with_reducible apply quiet_call); with_reducible exact rmid_c _ _) | (go_at_call 52; (with_reducible apply quiet_call); with_reducible exact rmid_c ⟨_, _, _⟩ _) | (go_at_call 65; (with_reducible apply quiet_call); with_reducible exact rof_c _ _ _)))))); (with_reducible refine wpQuiet_nil ?_); intro r) | ((with_reducible show Code.wp _ (Code.region 3 _ true) _ _ _); (with_reducible refine wp_more_tailq (id := 3) 10 ?_ ?_ ?_); kernel_rfl; kernel_rfl; (try simp only [List.take_succ_cons, List.take_zero, List.drop_succ_cons, List.drop_zero]); (repeat (any_goals (first | go_big_quiet_step ((first | (go_at_call 49; (with_reducible apply quiet_call_b); (with_reducible exact rright_c _ _); with_reducible assumption) | (go_at_call 49; (with_reducible apply quiet_call); with_reducible exact rright_c _ _) | (go_at_call 49; (with_reducible apply quiet_call_b); (with_reducible exact rright_c ⟨_, _, _⟩ _); with_reducible assumption) | (go_at_call 49; (with_reducible apply quiet_call); with_reducible exact rright_c ⟨_, _, _⟩ _) | (go_at_call 50; (with_reducible apply quiet_call); with_reducible exact rnone_c _) | (go_at_call 52; (with_reducible apply quiet_call); with_reducible exact rmid_c _ _) | (go_at_call 52; (with_reducible apply quiet_call); with_reducible exact rmid_c ⟨_, _, _⟩ _) | (go_at_call 65; (with_reducible apply quiet_call); with_reducible exact rof_c _ _ _))) | quiet_step ((first | (go_at_call 49; (with_reducible apply quiet_call_b); (with_reducible exact rright_c _ _); with_reducible assumption) | (go_at_call 49; (with_reducible apply quiet_call); with_reducible exact rright_c _ _) | (go_at_call 49; (with_reducible apply quiet_call_b); (with_reducible exact rright_c ⟨_, _, _⟩ _); with_reducible assumption) | (go_at_call 49; (with_reducible apply quiet_call); with_reducible exact rright_c ⟨_, _, _⟩ _) | (go_at_call 50; (with_reducible apply quiet_call); with_reducible exact rnone_c _) | (go_at_call 52; (with_reducible apply quiet_call); with_reducible exact rmid_c _ _) | (go_at_call 52; (with_reducible apply quiet_call); with_reducible exact rmid_c ⟨_, _, _⟩ _) | (go_at_call 65; (with_reducible apply quiet_call); with_reducible exact rof_c _ _ _)))))); (with_reducible refine wpQuiet_nil ?_); intro r))
    go_returns
    exact ⟨rfl, (by repeat (first | exact More.refl _ | refine More.alloc ?_ _ | refine More.more ?_ _ | refine More.drew ?_ | refine More.drewN ?_ _))⟩
  · rw [if_neg h]
    go_enter Try.func56, Try.ntmps56
    go_wp2_with (first | (go_at_call 49; (with_reducible refine (rright_c _ _).mono ?_); rintro e w' ⟨rfl, r, rfl⟩) | (go_at_call 49; (with_reducible refine (rright_c ⟨_, _, _⟩ _).mono ?_); rintro e w' ⟨rfl, r, rfl⟩) | (go_at_call 50; (with_reducible refine (rnone_c _).mono ?_); rintro e w' ⟨rfl, r, rfl⟩) | (go_at_call 52; (with_reducible refine (rmid_c _ _).mono ?_); rintro e w' ⟨rfl, r, rfl⟩) | (go_at_call 52; (with_reducible refine (rmid_c ⟨_, _, _⟩ _).mono ?_); rintro e w' ⟨rfl, r, rfl⟩) | (go_at_call 65; (with_reducible refine (rof_c _ _ _).mono ?_); rintro e w' ⟨rfl, r, rfl⟩) | ((with_reducible show Code.wp _ (Code.region 3 _ true) _ _ _); (with_reducible refine wp_more_tailq_m (id := 3) 10 ?_ ?_ ?_); kernel_rfl; kernel_rfl; (try simp only [List.take_succ_cons, List.take_zero, List.drop_succ_cons, List.drop_zero]); (repeat (any_goals (first | go_big_quiet_step ((first | (go_at_call 49; (with_reducible apply quiet_call_b); (with_reducible exact rright_c _ _); with_reducible assumption) | (go_at_call 49; (with_reducible apply quiet_call); with_reducible exact rright_c _ _) | (go_at_call 49; (with_reducible apply quiet_call_b); (with_reducible exact rright_c ⟨_, _, _⟩ _); with_reducible assumption) | (go_at_call 49; (with_reducible apply quiet_call); with_reducible exact rright_c ⟨_, _, _⟩ _) | (go_at_call 50; (with_reducible apply quiet_call); with_reducible exact rnone_c _) | (go_at_call 52; (with_reducible apply quiet_call); with_reducible exact rmid_c _ _) | (go_at_call 52; (with_reducible apply quiet_call); with_reducible exact rmid_c ⟨_, _, _⟩ _) | (go_at_call 65; (with_reducible apply quiet_call); with_reducible exact rof_c _ _ _))) | quiet_step ((first | (go_at_call 49; (with_reducible apply quiet_call_b); (with_reducible exact rright_c _ _); with_reducible assumption) | (go_at_call 49; (with_reducible apply quiet_call); with_reducible exact rright_c _ _) | (go_at_call 49; (with_reducible apply quiet_call_b); (with_reducible exact rright_c ⟨_, _, _⟩ _); with_reducible assumption) | (go_at_call 49; (with_reducible apply quiet_call); with_reducible exact rright_c ⟨_, _, _⟩ _) | (go_at_call 50; (with_reducible apply quiet_call); with_reducible exact rnone_c _) | (go_at_call 52; (with_reducible apply quiet_call); with_reducible exact rmid_c _ _) | (go_at_call 52; (with_reducible apply quiet_call); with_reducible exact rmid_c ⟨_, _, _⟩ _) | (go_at_call 65; (with_reducible apply quiet_call); with_reducible exact rof_c _ _ _)))))); (with_reducible refine wpQuiet_nil ?_); intro r) | ((with_reducible show Code.wp _ (Code.region 3 _ true) _ _ _); (with_reducible refine wp_more_tailq (id := 3) 10 ?_ ?_ ?_); kernel_rfl; kernel_rfl; (try simp only [List.take_succ_cons, List.take_zero, List.drop_succ_cons, List.drop_zero]); (repeat (any_goals (first | go_big_quiet_step ((first | (go_at_call 49; (with_reducible apply quiet_call_b); (with_reducible exact rright_c _ _); with_reducible assumption) | (go_at_call 49; (with_reducible apply quiet_call); with_reducible exact rright_c _ _) | (go_at_call 49; (with_reducible apply quiet_call_b); (with_reducible exact rright_c ⟨_, _, _⟩ _); with_reducible assumption) | (go_at_call 49; (with_reducible apply quiet_call); with_reducible exact rright_c ⟨_, _, _⟩ _) | (go_at_call 50; (with_reducible apply quiet_call); with_reducible exact rnone_c _) | (go_at_call 52; (with_reducible apply quiet_call); with_reducible exact rmid_c _ _) | (go_at_call 52; (with_reducible apply quiet_call); with_reducible exact rmid_c ⟨_, _, _⟩ _) | (go_at_call 65; (with_reducible apply quiet_call); with_reducible exact rof_c _ _ _))) | quiet_step ((first | (go_at_call 49; (with_reducible apply quiet_call_b); (with_reducible exact rright_c _ _); with_reducible assumption) | (go_at_call 49; (with_reducible apply quiet_call); with_reducible exact rright_c _ _) | (go_at_call 49; (with_reducible apply quiet_call_b); (with_reducible exact rright_c ⟨_, _, _⟩ _); with_reducible assumption) | (go_at_call 49; (with_reducible apply quiet_call); with_reducible exact rright_c ⟨_, _, _⟩ _) | (go_at_call 50; (with_reducible apply quiet_call); with_reducible exact rnone_c _) | (go_at_call 52; (with_reducible apply quiet_call); with_reducible exact rmid_c _ _) | (go_at_call 52; (with_reducible apply quiet_call); with_reducible exact rmid_c ⟨_, _, _⟩ _) | (go_at_call 65; (with_reducible apply quiet_call); with_reducible exact rof_c _ _ _)))))); (with_reducible refine wpQuiet_nil ?_); intro r))
    go_returns
    exact ⟨rfl, (by repeat (first | exact More.refl _ | refine More.alloc ?_ _ | refine More.more ?_ _ | refine More.drew ?_ | refine More.drewN ?_ _))⟩

set_option maxHeartbeats 4000000 in
theorem riroot_c (a : Iv) (W : World) :
    Calls Try.prog 77 #[ivV a] W fun e w' => e = .returned (ivV (ivRoot a)) ∧ More W w' := by
  rw [root_eq]
  by_cases h : ivRight a = true
  · by_cases h0 : a.lo < 0
    · simp only [h, h0]
      go_enter Try.func77, Try.ntmps77
      go_wp2_with (first | (go_at_call 49; (with_reducible refine (rright_c _ _).mono ?_); rintro e w' ⟨rfl, r, rfl⟩) | (go_at_call 49; (with_reducible refine (rright_c ⟨_, _, _⟩ _).mono ?_); rintro e w' ⟨rfl, r, rfl⟩) | (go_at_call 50; (with_reducible refine (rnone_c _).mono ?_); rintro e w' ⟨rfl, r, rfl⟩) | (go_at_call 65; (with_reducible refine (rof_c _ _ _).mono ?_); rintro e w' ⟨rfl, r, rfl⟩) | (go_at_call 83; (with_reducible refine (rroot_c _ _ _).mono ?_); rintro e w' ⟨rfl, rfl⟩))
      go_returns
      exact ⟨rfl, (by repeat (first | exact More.refl _ | refine More.alloc ?_ _ | refine More.more ?_ _ | refine More.drew ?_ | refine More.drewN ?_ _))⟩
    · simp only [h, h0]
      go_enter Try.func77, Try.ntmps77
      go_wp2_with (first | (go_at_call 49; (with_reducible refine (rright_c _ _).mono ?_); rintro e w' ⟨rfl, r, rfl⟩) | (go_at_call 49; (with_reducible refine (rright_c ⟨_, _, _⟩ _).mono ?_); rintro e w' ⟨rfl, r, rfl⟩) | (go_at_call 50; (with_reducible refine (rnone_c _).mono ?_); rintro e w' ⟨rfl, r, rfl⟩) | (go_at_call 65; (with_reducible refine (rof_c _ _ _).mono ?_); rintro e w' ⟨rfl, r, rfl⟩) | (go_at_call 83; (with_reducible refine (rroot_c _ _ _).mono ?_); rintro e w' ⟨rfl, rfl⟩))
      go_returns
      exact ⟨rfl, (by repeat (first | exact More.refl _ | refine More.alloc ?_ _ | refine More.more ?_ _ | refine More.drew ?_ | refine More.drewN ?_ _))⟩
  · simp only [h]
    go_enter Try.func77, Try.ntmps77
    go_wp2_with (first | (go_at_call 49; (with_reducible refine (rright_c _ _).mono ?_); rintro e w' ⟨rfl, r, rfl⟩) | (go_at_call 49; (with_reducible refine (rright_c ⟨_, _, _⟩ _).mono ?_); rintro e w' ⟨rfl, r, rfl⟩) | (go_at_call 50; (with_reducible refine (rnone_c _).mono ?_); rintro e w' ⟨rfl, r, rfl⟩) | (go_at_call 65; (with_reducible refine (rof_c _ _ _).mono ?_); rintro e w' ⟨rfl, r, rfl⟩) | (go_at_call 83; (with_reducible refine (rroot_c _ _ _).mono ?_); rintro e w' ⟨rfl, rfl⟩))
    go_returns
    exact ⟨rfl, (by repeat (first | exact More.refl _ | refine More.alloc ?_ _ | refine More.more ?_ _ | refine More.drew ?_ | refine More.drewN ?_ _))⟩

end Go.Proofs.Ytphmdjgnncjcmaa

