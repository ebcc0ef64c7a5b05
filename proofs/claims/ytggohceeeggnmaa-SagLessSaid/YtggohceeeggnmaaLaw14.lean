/-
  Chapter 14's example; equal intervals.
-/
import Derived.Test.YtggohceeeggnmaaSagOf
import Derived.Test.YtggohceeeggnmaaGr5
namespace Go.Proofs.Ytggohceeeggnmaa
set_option linter.unusedVariables false
open Go.ChangeShapes Go.WideShapes Go.ChangeAt Go.RowKit

theorem eql_same (x1 x2 : Int) (n : Bool) (w : World) : (binOp .eql 23 (.agg #[.int .i64 x1, .int .i64 x2, .bool n]) (.agg #[.int .i64 x1, .int .i64 x2, .bool n])).run Try.prog w = .ok (.bool true) w := by
  have h := eql_iv ⟨x1, x2, n⟩ ⟨x1, x2, n⟩ w
  rw [ivEq_iff.2 rfl] at h
  exact h
theorem neql_same (x1 x2 : Int) (n : Bool) (w : World) : (binOp .neq 23 (.agg #[.int .i64 x1, .int .i64 x2, .bool n]) (.agg #[.int .i64 x1, .int .i64 x2, .bool n])).run Try.prog w = .ok (.bool false) w := by
  have h := neql_iv ⟨x1, x2, n⟩ ⟨x1, x2, n⟩ w
  rw [ivEq_iff.2 rfl] at h
  exact h

set_option maxHeartbeats 4000000 in
theorem flat14_c (W : World) : Calls Try.prog 74 #[] W fun e w' => e = .returned (sfV ⟨false, false, ⟨0, 0, false⟩, ⟨65536, 65536, false⟩, ⟨0, 0, false⟩, ⟨0, 0, false⟩, ⟨0, 0, false⟩, ⟨6553600, 6553600, false⟩, ⟨65536, 65536, false⟩⟩) ∧ More W w' := by
  have h0 : ivPoint 0 = ⟨0, 0, false⟩ := by kernel_rfl
  have h1 : ivWhole 1 = ⟨65536, 65536, false⟩ := by kernel_rfl
  have h2 : ivWhole 100 = ⟨6553600, 6553600, false⟩ := by kernel_rfl
  go_enter Try.func74, Try.ntmps74
  go_wp2_with (first | (go_at_call 11; (with_reducible refine (whole_c _ _).mono ?_); rintro e w' ⟨rfl, r, rfl⟩) | (go_at_call 14; (with_reducible refine (point_c _ _).mono ?_); rintro e w' ⟨rfl, r, rfl⟩))
  exact bodyPost_ret (results_one Try.results74 rfl (load_sf_obj (s := ⟨false, false, ⟨0, 0, false⟩, ⟨65536, 65536, false⟩, ⟨0, 0, false⟩, ⟨0, 0, false⟩, ⟨0, 0, false⟩, ⟨6553600, 6553600, false⟩, ⟨65536, 65536, false⟩⟩) (obj_under (by repeat (first | exact More.refl _ | refine More.alloc ?_ _ | refine More.more ?_ _ | refine More.drew ?_ | refine More.drewN ?_ _))))) rfl ⟨rfl, (by repeat (first | exact More.refl _ | refine More.alloc ?_ _ | refine More.more ?_ _ | refine More.drew ?_ | refine More.drewN ?_ _))⟩

set_option maxHeartbeats 4000000 in
set_option maxRecDepth 100000 in
theorem known14_c  (W : World) :
    Calls Try.prog 38 #[] W fun e w' => e = .returned (.bool true) ∧ More W w' := by
  have h0 : ivPoint 0 = ⟨0, 0, false⟩ := by kernel_rfl
  have h9 : ivWhole 9 = ⟨589824, 589824, false⟩ := by kernel_rfl
  have k1 : sagZ ⟨false, false, ⟨0, 0, false⟩, ⟨65536, 65536, false⟩, ⟨0, 0, false⟩, ⟨0, 0, false⟩, ⟨0, 0, false⟩, ⟨6553600, 6553600, false⟩, ⟨65536, 65536, false⟩⟩ ⟨589824, 589824, false⟩ = ⟨0, 0, false⟩ := by kernel_rfl
  have k2 : sagM ⟨false, false, ⟨0, 0, false⟩, ⟨65536, 65536, false⟩, ⟨0, 0, false⟩, ⟨0, 0, false⟩, ⟨0, 0, false⟩, ⟨6553600, 6553600, false⟩, ⟨65536, 65536, false⟩⟩ ⟨589824, 589824, false⟩ = ⟨0, 0, false⟩ := by kernel_rfl
  have k3 : ivRight ⟨0, 0, false⟩ = true := by decide
  have E := eql_same
  go_enter Try.func38, Try.ntmps38
  go_wp2_with (first | (go_at_call 74; (with_reducible refine (flat14_c _).mono ?_); rintro e w' ⟨rfl, r, rfl⟩) | (go_at_call 11; (with_reducible refine (whole_c _ _).mono ?_); rintro e w' ⟨rfl, r, rfl⟩) | (go_at_call 14; (with_reducible refine (point_c _ _).mono ?_); rintro e w' ⟨rfl, r, rfl⟩) | (go_at_call 18; (with_reducible refine (right_c _ _).mono ?_); rintro e w' ⟨rfl, r, rfl⟩) | (go_at_call 18; (with_reducible refine (right_c ⟨_, _, _⟩ _).mono ?_); rintro e w' ⟨rfl, r, rfl⟩) | (go_at_call 35; (with_reducible refine (sag_c _ _ _).mono ?_); rintro e w' ⟨rfl, r, rfl⟩) | (go_at_call 35; (with_reducible refine (sag_c _ ⟨_, _, _⟩ _).mono ?_); rintro e w' ⟨rfl, r, rfl⟩) | (go_at_call 35; (with_reducible refine (sag_c ⟨_, _, ⟨_, _, _⟩, ⟨_, _, _⟩, ⟨_, _, _⟩, ⟨_, _, _⟩, ⟨_, _, _⟩, ⟨_, _, _⟩, ⟨_, _, _⟩⟩ ⟨_, _, _⟩ _).mono ?_); rintro e w' ⟨rfl, r, rfl⟩) | ((with_reducible show Code.wp _ (Code.region 2 _ true) _ _ _); (with_reducible refine wp_more_quick_m (id := 2) ?_ ?_ ?_); kernel_rfl; kernel_rfl; (try simp only [List.take_succ_cons, List.take_zero, List.drop_succ_cons, List.drop_zero]); (repeat (any_goals (first | go_big_quiet_step ((first | (go_at_call 14; (with_reducible apply quiet_call); with_reducible exact point_c _ _) | (go_at_call 18; (with_reducible apply quiet_call_b); (with_reducible exact right_c _ _); with_reducible assumption) | (go_at_call 18; (with_reducible apply quiet_call); with_reducible exact right_c _ _) | (go_at_call 18; (with_reducible apply quiet_call_b); (with_reducible exact right_c ⟨_, _, _⟩ _); with_reducible assumption) | (go_at_call 18; (with_reducible apply quiet_call); with_reducible exact right_c ⟨_, _, _⟩ _))) | quiet_step ((first | (go_at_call 14; (with_reducible apply quiet_call); with_reducible exact point_c _ _) | (go_at_call 18; (with_reducible apply quiet_call_b); (with_reducible exact right_c _ _); with_reducible assumption) | (go_at_call 18; (with_reducible apply quiet_call); with_reducible exact right_c _ _) | (go_at_call 18; (with_reducible apply quiet_call_b); (with_reducible exact right_c ⟨_, _, _⟩ _); with_reducible assumption) | (go_at_call 18; (with_reducible apply quiet_call); with_reducible exact right_c ⟨_, _, _⟩ _)))))); (with_reducible refine wpQuiet_nil ?_); intro r) | ((with_reducible show Code.wp _ (Code.region 2 _ true) _ _ _); (with_reducible refine wp_more_quick (id := 2) ?_ ?_ ?_); kernel_rfl; kernel_rfl; (try simp only [List.take_succ_cons, List.take_zero, List.drop_succ_cons, List.drop_zero]); (repeat (any_goals (first | go_big_quiet_step ((first | (go_at_call 14; (with_reducible apply quiet_call); with_reducible exact point_c _ _) | (go_at_call 18; (with_reducible apply quiet_call_b); (with_reducible exact right_c _ _); with_reducible assumption) | (go_at_call 18; (with_reducible apply quiet_call); with_reducible exact right_c _ _) | (go_at_call 18; (with_reducible apply quiet_call_b); (with_reducible exact right_c ⟨_, _, _⟩ _); with_reducible assumption) | (go_at_call 18; (with_reducible apply quiet_call); with_reducible exact right_c ⟨_, _, _⟩ _))) | quiet_step ((first | (go_at_call 14; (with_reducible apply quiet_call); with_reducible exact point_c _ _) | (go_at_call 18; (with_reducible apply quiet_call_b); (with_reducible exact right_c _ _); with_reducible assumption) | (go_at_call 18; (with_reducible apply quiet_call); with_reducible exact right_c _ _) | (go_at_call 18; (with_reducible apply quiet_call_b); (with_reducible exact right_c ⟨_, _, _⟩ _); with_reducible assumption) | (go_at_call 18; (with_reducible apply quiet_call); with_reducible exact right_c ⟨_, _, _⟩ _)))))); (with_reducible refine wpQuiet_nil ?_); intro r))
  all_goals
    go_returns
    exact ⟨rfl, (by repeat (first | exact More.refl _ | refine More.alloc ?_ _ | refine More.more ?_ _ | refine More.drew ?_ | refine More.drewN ?_ _))⟩
end Go.Proofs.Ytggohceeeggnmaa
