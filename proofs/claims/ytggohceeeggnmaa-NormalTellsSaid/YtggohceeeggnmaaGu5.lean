/-
  Chapter 16's example; equal places; places of raw numbers.
  Across a face: the plain saying.
-/
import Derived.Test.YtggohceeeggnmaaNorm
import Derived.Test.YtggohceeeggnmaaLaw14
import Derived.Test.YtggohceeeggnmaaGq5
import Derived.Test.YtggohceeeggnmaaSagRef

namespace Go.Proofs.Ytggohceeeggnmaa
set_option linter.unusedVariables false
open Go.ChangeShapes Go.WideShapes Go.ChangeAt Go.RowKit

set_option maxHeartbeats 4000000 in
set_option maxRecDepth 100000 in
theorem eql_pl16 (a1 a2 b1 b2 c1 c2 : Int) (a3 b3 c3 : Bool) (w : World) : (binOp .eql 30 (.agg #[.int .i64 a1, .int .i64 a2, .bool a3, .int .i64 b1, .int .i64 b2, .bool b3, .int .i64 c1, .int .i64 c2, .bool c3]) (.agg #[.int .i64 a1, .int .i64 a2, .bool a3, .int .i64 b1, .int .i64 b2, .bool b3, .int .i64 c1, .int .i64 c2, .bool c3])).run Try.prog w = .ok (.bool true) w := by
  have hS : Try.prog.underlying 30 = some (.struct (Try.prog.fieldsOf 30)) := by kernel_rfl
  have hp : Try.prog.stoodInHeld 30 = false := by kernel_rfl
  have hd : ∀ (x1 x2 : Int) (n : Bool) (w : World), (Op.equalIn 9999 23 (.agg #[.int .i64 x1, .int .i64 x2, .bool n]) (.agg #[.int .i64 x1, .int .i64 x2, .bool n])).run Try.prog w = .ok true w := fun x1 x2 n w => by rw [eqIn_iv]; simp
  rw [run_eql_struct, show (10000 : Nat) = 9999 + 1 from rfl, run_equalIn_agg w 9999 _ _ _ hS hp]
  simp only [Program.fieldsOf, Try.underlying30]
  go_simp

set_option maxHeartbeats 4000000 in
set_option maxRecDepth 100000 in
theorem neql_pl16 (a1 a2 b1 b2 c1 c2 : Int) (a3 b3 c3 : Bool) (w : World) : (binOp .neq 30 (.agg #[.int .i64 a1, .int .i64 a2, .bool a3, .int .i64 b1, .int .i64 b2, .bool b3, .int .i64 c1, .int .i64 c2, .bool c3]) (.agg #[.int .i64 a1, .int .i64 a2, .bool a3, .int .i64 b1, .int .i64 b2, .bool b3, .int .i64 c1, .int .i64 c2, .bool c3])).run Try.prog w = .ok (.bool false) w := by
  have hS : Try.prog.underlying 30 = some (.struct (Try.prog.fieldsOf 30)) := by kernel_rfl
  have hp : Try.prog.stoodInHeld 30 = false := by kernel_rfl
  have hd : ∀ (x1 x2 : Int) (n : Bool) (w : World), (Op.equalIn 9999 23 (.agg #[.int .i64 x1, .int .i64 x2, .bool n]) (.agg #[.int .i64 x1, .int .i64 x2, .bool n])).run Try.prog w = .ok true w := fun x1 x2 n w => by rw [eqIn_iv]; simp
  rw [run_neq_struct, show (10000 : Nat) = 9999 + 1 from rfl, run_equalIn_agg w 9999 _ _ _ hS hp]
  simp only [Program.fieldsOf, Try.underlying30]
  go_simp

def hPlace (x y z w : Int) : Pl := ⟨hWide (x % 1048576 - 524288) (w % 2000), hWide (y % 1048576 - 524288) (w % 2000), hWide (z % 262144 - 131072) (w % 2000)⟩

set_option maxHeartbeats 4000000 in
theorem place16_c (x y z w : Int) (hx : -9223372036854775808 ≤ x) (hx' : x ≤ 9223372036854775807) (hy : -9223372036854775808 ≤ y) (hy' : y ≤ 9223372036854775807) (hz : -9223372036854775808 ≤ z) (hz' : z ≤ 9223372036854775807) (hw : -9223372036854775808 ≤ w) (hw' : w ≤ 9223372036854775807) (W : World) :
    Calls Try.prog 20 #[.int .i64 x, .int .i64 y, .int .i64 z, .int .i64 w] W fun e w' => e = .returned (plV (hPlace x y z w)) ∧ More W w' := by
  unfold hPlace
  obtain ⟨X, hX⟩ : ∃ X, x % 1048576 = X := ⟨_, rfl⟩
  obtain ⟨Y, hY⟩ : ∃ Y, y % 1048576 = Y := ⟨_, rfl⟩
  obtain ⟨Z, hZ⟩ : ∃ Z, z % 262144 = Z := ⟨_, rfl⟩
  obtain ⟨V, hV⟩ : ∃ V, w % 2000 = V := ⟨_, rfl⟩
  have X0 : 0 ≤ X := by omega
  have X1 : X < 1048576 := by omega
  have Y0 : 0 ≤ Y := by omega
  have Y1 : Y < 1048576 := by omega
  have Z0 : 0 ≤ Z := by omega
  have Z1 : Z < 262144 := by omega
  have V0 : 0 ≤ V := by omega
  have V1 : V < 2000 := by omega
  rw [hX, hY, hZ, hV]
  obtain ⟨⟨p1, p2, p3⟩, hp⟩ : ∃ d, hWide (X - 524288) V = d := ⟨_, rfl⟩
  obtain ⟨⟨q1, q2, q3⟩, hq⟩ : ∃ d, hWide (Y - 524288) V = d := ⟨_, rfl⟩
  obtain ⟨⟨r1, r2, r3⟩, hr⟩ : ∃ d, hWide (Z - 131072) V = d := ⟨_, rfl⟩
  rw [hp, hq, hr]
  go_enter Try.func20, Try.ntmps20
  go_wp2_with (first | (go_at_call 29; (with_reducible refine (pick_c _ _ (by omega) (by omega) (by omega) (by omega) _).mono ?_); rintro e w' ⟨rfl, rfl⟩) | (go_at_call 34; (with_reducible refine (hwide_c _ _ (by omega) (by omega) _).mono ?_); rintro e w' ⟨rfl, r, rfl⟩))
  go_returns
  exact ⟨rfl, (by repeat (first | exact More.refl _ | refine More.alloc ?_ _ | refine More.more ?_ _ | refine More.drew ?_ | refine More.drewN ?_ _))⟩

theorem hPlace_right (x y z w : Int) : PRight (hPlace x y z w) := by
  have h : 0 ≤ w % 2000 := by omega
  exact ⟨hWide_right h, hWide_right h, hWide_right h⟩

set_option maxHeartbeats 4000000 in
theorem flat16_c (W : World) : Calls Try.prog 9 #[] W fun e w' => e = .returned (sfV ⟨false, false, ⟨0, 0, false⟩, ⟨65536, 65536, false⟩, ⟨0, 0, false⟩, ⟨0, 0, false⟩, ⟨0, 0, false⟩, ⟨6553600, 6553600, false⟩, ⟨65536, 65536, false⟩⟩) ∧ More W w' := by
  have h0 : ivPoint 0 = ⟨0, 0, false⟩ := by kernel_rfl
  have h1 : ivWhole 1 = ⟨65536, 65536, false⟩ := by kernel_rfl
  have h2 : ivWhole 100 = ⟨6553600, 6553600, false⟩ := by kernel_rfl
  go_enter Try.func9, Try.ntmps9
  go_wp2_with (first | (go_at_call 11; (with_reducible refine (whole_c _ _).mono ?_); rintro e w' ⟨rfl, r, rfl⟩) | (go_at_call 14; (with_reducible refine (point_c _ _).mono ?_); rintro e w' ⟨rfl, r, rfl⟩))
  exact bodyPost_ret (results_one Try.results9 rfl (load_sf_obj (s := ⟨false, false, ⟨0, 0, false⟩, ⟨65536, 65536, false⟩, ⟨0, 0, false⟩, ⟨0, 0, false⟩, ⟨0, 0, false⟩, ⟨6553600, 6553600, false⟩, ⟨65536, 65536, false⟩⟩) (obj_under (by repeat (first | exact More.refl _ | refine More.alloc ?_ _ | refine More.more ?_ _ | refine More.drew ?_ | refine More.drewN ?_ _))))) rfl ⟨rfl, (by repeat (first | exact More.refl _ | refine More.alloc ?_ _ | refine More.more ?_ _ | refine More.drew ?_ | refine More.drewN ?_ _))⟩

set_option maxHeartbeats 4000000 in
set_option maxRecDepth 100000 in
theorem known16_c  (W : World) :
    Calls Try.prog 16 #[] W fun e w' => e = .returned (.bool true) ∧ More W w' := by
  have h0 : ivPoint 0 = ⟨0, 0, false⟩ := by kernel_rfl
  have h1 : ivWhole 1 = ⟨65536, 65536, false⟩ := by kernel_rfl
  have h3 : ivWhole 3 = ⟨196608, 196608, false⟩ := by kernel_rfl
  have h4 : ivWhole 4 = ⟨262144, 262144, false⟩ := by kernel_rfl
  have k1 : normP ⟨false, false, ⟨0, 0, false⟩, ⟨65536, 65536, false⟩, ⟨0, 0, false⟩, ⟨0, 0, false⟩, ⟨0, 0, false⟩, ⟨6553600, 6553600, false⟩, ⟨65536, 65536, false⟩⟩ ⟨⟨196608, 196608, false⟩, ⟨262144, 262144, false⟩, ⟨0, 0, false⟩⟩ = ⟨⟨0, 0, false⟩, ⟨0, 0, false⟩, ⟨65536, 65536, false⟩⟩ := by kernel_rfl
  have k3 : ivRight ⟨65536, 65536, false⟩ = true := by decide
  have E := eql_pl16
  go_enter Try.func16, Try.ntmps16
  go_wp2_with (first | (go_at_call 9; (with_reducible refine (flat16_c _).mono ?_); rintro e w' ⟨rfl, r, rfl⟩) | (go_at_call 11; (with_reducible refine (whole_c _ _).mono ?_); rintro e w' ⟨rfl, r, rfl⟩) | (go_at_call 12; (with_reducible refine (norm_c _ _ _).mono ?_); rintro e w' ⟨rfl, r, rfl⟩) | (go_at_call 12; (with_reducible refine (norm_c _ ⟨_, _, _⟩ _).mono ?_); rintro e w' ⟨rfl, r, rfl⟩) | (go_at_call 12; (with_reducible refine (norm_c ⟨_, _, ⟨_, _, _⟩, ⟨_, _, _⟩, ⟨_, _, _⟩, ⟨_, _, _⟩, ⟨_, _, _⟩, ⟨_, _, _⟩, ⟨_, _, _⟩⟩ ⟨_, _, _⟩ _).mono ?_); rintro e w' ⟨rfl, r, rfl⟩) | (go_at_call 12; (with_reducible refine (norm_c _ ⟨⟨_, _, _⟩, ⟨_, _, _⟩, ⟨_, _, _⟩⟩ _).mono ?_); rintro e w' ⟨rfl, r, rfl⟩) | (go_at_call 12; (with_reducible refine (norm_c ⟨_, _, ⟨_, _, _⟩, ⟨_, _, _⟩, ⟨_, _, _⟩, ⟨_, _, _⟩, ⟨_, _, _⟩, ⟨_, _, _⟩, ⟨_, _, _⟩⟩ ⟨⟨_, _, _⟩, ⟨_, _, _⟩, ⟨_, _, _⟩⟩ _).mono ?_); rintro e w' ⟨rfl, r, rfl⟩) | (go_at_call 13; (with_reducible refine (vof_c _ _ _ _).mono ?_); rintro e w' ⟨rfl, r, rfl⟩) | (go_at_call 13; (with_reducible refine (vof_c ⟨_, _, _⟩ ⟨_, _, _⟩ ⟨_, _, _⟩ _).mono ?_); rintro e w' ⟨rfl, r, rfl⟩) | (go_at_call 14; (with_reducible refine (point_c _ _).mono ?_); rintro e w' ⟨rfl, r, rfl⟩) | (go_at_call 18; (with_reducible refine (right_c _ _).mono ?_); rintro e w' ⟨rfl, r, rfl⟩) | (go_at_call 18; (with_reducible refine (right_c ⟨_, _, _⟩ _).mono ?_); rintro e w' ⟨rfl, r, rfl⟩))
  all_goals
    go_returns
    exact ⟨rfl, (by repeat (first | exact More.refl _ | refine More.alloc ?_ _ | refine More.more ?_ _ | refine More.drew ?_ | refine More.drewN ?_ _))⟩
end Go.Proofs.Ytggohceeeggnmaa

namespace Go.Proofs.Ytggohceeeggnmaa
set_option linter.unusedVariables false
open Go.ChangeShapes Go.WideShapes Go.ChangeAt Go.RowKit

set_option maxHeartbeats 16000000 in
set_option maxRecDepth 100000 in
theorem rnorm_c (s : Sf) (p : Pl) (W : World) :
    Calls Try.prog 22 #[sfV s, plV p] W fun e w' => e = .returned (plV (normP s p)) ∧ More W w' := by
  have hone : ivPoint 65536 = ⟨65536, 65536, false⟩ := by kernel_rfl
  unfold normP
  obtain ⟨st, bt, sc, sk, sa4, sa6, spl, sop, sra⟩ := s
  cases bt
  · unfold normV normF oneI
    rw [hone]
    obtain ⟨c1, c2, c3⟩ := sc
    obtain ⟨k1, k2, k3⟩ := sk
    obtain ⟨⟨x1, x2, x3⟩, ⟨y1, y2, y3⟩, ⟨z1, z2, z3⟩⟩ := p
    simp only [if_false, Bool.false_eq_true]
    obtain ⟨⟨⟨u1, u2, u3⟩, ⟨v1, v2, v3⟩, ⟨w1, w2, w3⟩⟩, hu⟩ : ∃ d, plUnit ⟨ivNeg (ivMul ⟨c1, c2, c3⟩ ⟨x1, x2, x3⟩), ivNeg (ivMul ⟨c1, c2, c3⟩ ⟨y1, y2, y3⟩), ivSub ⟨65536, 65536, false⟩ (ivMul ⟨c1, c2, c3⟩ (ivMul ⟨k1, k2, k3⟩ ⟨z1, z2, z3⟩))⟩ = d := ⟨_, rfl⟩
    rw [hu]
    go_enter Try.func22, Try.ntmps22
    go_wp2_with (first | (first | (go_at_call 52; (with_reducible refine (rpoint_c _ _).mono ?_); rintro e w' ⟨rfl, r, rfl⟩) | (go_at_call 53; (with_reducible refine (rvunit_c _ _).mono ?_); rintro e w' ⟨rfl, r, rfl⟩) | (go_at_call 53; (with_reducible refine (rvunit_c ⟨_, _, _⟩ _).mono ?_); rintro e w' ⟨rfl, r, rfl⟩) | (go_at_call 53; (with_reducible refine (rvunit_c ⟨⟨_, _, _⟩, ⟨_, _, _⟩, ⟨_, _, _⟩⟩ _).mono ?_); rintro e w' ⟨rfl, r, rfl⟩) | (go_at_call 54; (with_reducible refine (rneg_c _ _).mono ?_); rintro e w' ⟨rfl, r, rfl⟩) | (go_at_call 54; (with_reducible refine (rneg_c ⟨_, _, _⟩ _).mono ?_); rintro e w' ⟨rfl, r, rfl⟩) | (go_at_call 55; (with_reducible refine (rmuliv_c _ _ _).mono ?_); rintro e w' ⟨rfl, r, rfl⟩) | (go_at_call 55; (with_reducible refine (rmuliv_c _ ⟨_, _, _⟩ _).mono ?_); rintro e w' ⟨rfl, r, rfl⟩) | (go_at_call 55; (with_reducible refine (rmuliv_c ⟨_, _, _⟩ _ _).mono ?_); rintro e w' ⟨rfl, r, rfl⟩) | (go_at_call 55; (with_reducible refine (rmuliv_c ⟨_, _, _⟩ ⟨_, _, _⟩ _).mono ?_); rintro e w' ⟨rfl, r, rfl⟩) | (go_at_call 56; (with_reducible refine (rsub_c _ _ _).mono ?_); rintro e w' ⟨rfl, r, rfl⟩) | (go_at_call 56; (with_reducible refine (rsub_c _ ⟨_, _, _⟩ _).mono ?_); rintro e w' ⟨rfl, r, rfl⟩) | (go_at_call 56; (with_reducible refine (rsub_c ⟨_, _, _⟩ _ _).mono ?_); rintro e w' ⟨rfl, r, rfl⟩) | (go_at_call 56; (with_reducible refine (rsub_c ⟨_, _, _⟩ ⟨_, _, _⟩ _).mono ?_); rintro e w' ⟨rfl, r, rfl⟩) | ((with_reducible show Code.wp _ (Code.region 3 _ true) _ _ _); (with_reducible refine wp_more_tailq_m (id := 3) 24 ?_ ?_ ?_); kernel_rfl; kernel_rfl; (try simp only [List.take_succ_cons, List.take_zero, List.drop_succ_cons, List.drop_zero]); (repeat (any_goals (first | go_big_quiet_step ((first | (go_at_call 53; (with_reducible apply quiet_call); with_reducible exact rvunit_c _ _) | (go_at_call 53; (with_reducible apply quiet_call); with_reducible exact rvunit_c ⟨_, _, _⟩ _) | (go_at_call 53; (with_reducible apply quiet_call); with_reducible exact rvunit_c ⟨⟨_, _, _⟩, ⟨_, _, _⟩, ⟨_, _, _⟩⟩ _) | (go_at_call 54; (with_reducible apply quiet_call); with_reducible exact rneg_c _ _) | (go_at_call 54; (with_reducible apply quiet_call); with_reducible exact rneg_c ⟨_, _, _⟩ _) | (go_at_call 55; (with_reducible apply quiet_call); with_reducible exact rmuliv_c _ _ _) | (go_at_call 55; (with_reducible apply quiet_call); with_reducible exact rmuliv_c _ ⟨_, _, _⟩ _) | (go_at_call 55; (with_reducible apply quiet_call); with_reducible exact rmuliv_c ⟨_, _, _⟩ _ _) | (go_at_call 55; (with_reducible apply quiet_call); with_reducible exact rmuliv_c ⟨_, _, _⟩ ⟨_, _, _⟩ _) | (go_at_call 56; (with_reducible apply quiet_call); with_reducible exact rsub_c _ _ _) | (go_at_call 56; (with_reducible apply quiet_call); with_reducible exact rsub_c _ ⟨_, _, _⟩ _) | (go_at_call 56; (with_reducible apply quiet_call); with_reducible exact rsub_c ⟨_, _, _⟩ _ _) | (go_at_call 56; (with_reducible apply quiet_call); with_reducible exact rsub_c ⟨_, _, _⟩ ⟨_, _, _⟩ _))) | quiet_step ((first | (go_at_call 53; (with_reducible apply quiet_call); with_reducible exact rvunit_c _ _) | (go_at_call 53; (with_reducible apply quiet_call); with_reducible exact rvunit_c ⟨_, _, _⟩ _) | (go_at_call 53; (with_reducible apply quiet_call); with_reducible exact rvunit_c ⟨⟨_, _, _⟩, ⟨_, _, _⟩, ⟨_, _, _⟩⟩ _) | (go_at_call 54; (with_reducible apply quiet_call); with_reducible exact rneg_c _ _) | (go_at_call 54; (with_reducible apply quiet_call); with_reducible exact rneg_c ⟨_, _, _⟩ _) | (go_at_call 55; (with_reducible apply quiet_call); with_reducible exact rmuliv_c _ _ _) | (go_at_call 55; (with_reducible apply quiet_call); with_reducible exact rmuliv_c _ ⟨_, _, _⟩ _) | (go_at_call 55; (with_reducible apply quiet_call); with_reducible exact rmuliv_c ⟨_, _, _⟩ _ _) | (go_at_call 55; (with_reducible apply quiet_call); with_reducible exact rmuliv_c ⟨_, _, _⟩ ⟨_, _, _⟩ _) | (go_at_call 56; (with_reducible apply quiet_call); with_reducible exact rsub_c _ _ _) | (go_at_call 56; (with_reducible apply quiet_call); with_reducible exact rsub_c _ ⟨_, _, _⟩ _) | (go_at_call 56; (with_reducible apply quiet_call); with_reducible exact rsub_c ⟨_, _, _⟩ _ _) | (go_at_call 56; (with_reducible apply quiet_call); with_reducible exact rsub_c ⟨_, _, _⟩ ⟨_, _, _⟩ _)))))); (with_reducible refine wpQuiet_nil ?_); intro r) | ((with_reducible show Code.wp _ (Code.region 3 _ true) _ _ _); (with_reducible refine wp_more_tailq (id := 3) 24 ?_ ?_ ?_); kernel_rfl; kernel_rfl; (try simp only [List.take_succ_cons, List.take_zero, List.drop_succ_cons, List.drop_zero]); (repeat (any_goals (first | go_big_quiet_step ((first | (go_at_call 53; (with_reducible apply quiet_call); with_reducible exact rvunit_c _ _) | (go_at_call 53; (with_reducible apply quiet_call); with_reducible exact rvunit_c ⟨_, _, _⟩ _) | (go_at_call 53; (with_reducible apply quiet_call); with_reducible exact rvunit_c ⟨⟨_, _, _⟩, ⟨_, _, _⟩, ⟨_, _, _⟩⟩ _) | (go_at_call 54; (with_reducible apply quiet_call); with_reducible exact rneg_c _ _) | (go_at_call 54; (with_reducible apply quiet_call); with_reducible exact rneg_c ⟨_, _, _⟩ _) | (go_at_call 55; (with_reducible apply quiet_call); with_reducible exact rmuliv_c _ _ _) | (go_at_call 55; (with_reducible apply quiet_call); with_reducible exact rmuliv_c _ ⟨_, _, _⟩ _) | (go_at_call 55; (with_reducible apply quiet_call); with_reducible exact rmuliv_c ⟨_, _, _⟩ _ _) | (go_at_call 55; (with_reducible apply quiet_call); with_reducible exact rmuliv_c ⟨_, _, _⟩ ⟨_, _, _⟩ _) | (go_at_call 56; (with_reducible apply quiet_call); with_reducible exact rsub_c _ _ _) | (go_at_call 56; (with_reducible apply quiet_call); with_reducible exact rsub_c _ ⟨_, _, _⟩ _) | (go_at_call 56; (with_reducible apply quiet_call); with_reducible exact rsub_c ⟨_, _, _⟩ _ _) | (go_at_call 56; (with_reducible apply quiet_call); with_reducible exact rsub_c ⟨_, _, _⟩ ⟨_, _, _⟩ _))) | quiet_step ((first | (go_at_call 53; (with_reducible apply quiet_call); with_reducible exact rvunit_c _ _) | (go_at_call 53; (with_reducible apply quiet_call); with_reducible exact rvunit_c ⟨_, _, _⟩ _) | (go_at_call 53; (with_reducible apply quiet_call); with_reducible exact rvunit_c ⟨⟨_, _, _⟩, ⟨_, _, _⟩, ⟨_, _, _⟩⟩ _) | (go_at_call 54; (with_reducible apply quiet_call); with_reducible exact rneg_c _ _) | (go_at_call 54; (with_reducible apply quiet_call); with_reducible exact rneg_c ⟨_, _, _⟩ _) | (go_at_call 55; (with_reducible apply quiet_call); with_reducible exact rmuliv_c _ _ _) | (go_at_call 55; (with_reducible apply quiet_call); with_reducible exact rmuliv_c _ ⟨_, _, _⟩ _) | (go_at_call 55; (with_reducible apply quiet_call); with_reducible exact rmuliv_c ⟨_, _, _⟩ _ _) | (go_at_call 55; (with_reducible apply quiet_call); with_reducible exact rmuliv_c ⟨_, _, _⟩ ⟨_, _, _⟩ _) | (go_at_call 56; (with_reducible apply quiet_call); with_reducible exact rsub_c _ _ _) | (go_at_call 56; (with_reducible apply quiet_call); with_reducible exact rsub_c _ ⟨_, _, _⟩ _) | (go_at_call 56; (with_reducible apply quiet_call); with_reducible exact rsub_c ⟨_, _, _⟩ _ _) | (go_at_call 56; (with_reducible apply quiet_call); with_reducible exact rsub_c ⟨_, _, _⟩ ⟨_, _, _⟩ _)))))); (with_reducible refine wpQuiet_nil ?_); intro r)))
    (try simp only [hu])
    go_returns
    exact ⟨rfl, (by repeat (first | exact More.refl _ | refine More.alloc ?_ _ | refine More.more ?_ _ | refine More.drew ?_ | refine More.drewN ?_ _))⟩
  · unfold normV normB normR oneI
    rw [hone]
    simp only [if_true]
    obtain ⟨⟨r1, r2, r3⟩, hr⟩ : ∃ d, ivAdd (ivSqr p.x) (ivSqr p.y) = d := ⟨_, rfl⟩
    rw [hr]
    obtain ⟨⟨z1, z2, z3⟩, hz⟩ : ∃ d, sagZ ⟨st, true, sc, sk, sa4, sa6, spl, sop, sra⟩ ⟨r1, r2, r3⟩ = d := ⟨_, rfl⟩
    obtain ⟨⟨m1, m2, m3⟩, hm⟩ : ∃ d, sagM ⟨st, true, sc, sk, sa4, sa6, spl, sop, sra⟩ ⟨r1, r2, r3⟩ = d := ⟨_, rfl⟩
    rw [hm]
    have Hr := Lib.hid hr
    clear hr
    have Hz := Lib.hid hz
    clear hz
    have Hm := Lib.hid hm
    clear hm
    go_enter Try.func22, Try.ntmps22
    go_upto_region 4 with (first | (first | (go_at_call 52; (with_reducible refine (rpoint_c _ _).mono ?_); rintro e w' ⟨rfl, r, rfl⟩)))
    obtain ⟨ra, hra⟩ : ∃ x, x = r := ⟨_, rfl⟩
    subst hra
    (first | (with_reducible refine wp_more_apartl_m (id := 4) 14 63 [11] [(23, #[.int .i64 0, .int .i64 0, .bool false])] ?_ ?_ ?_ ?_ ?_ ?_ ?_ ?_ ?_ ?_) | (refine wp_more_apartl (id := 4) 14 63 [11] [(23, #[.int .i64 0, .int .i64 0, .bool false])] ?_ ?_ ?_ ?_ ?_ ?_ ?_ ?_ ?_ ?_))
    · intro p hp; simp only [List.mem_cons, List.not_mem_nil, or_false] at hp; subst hp <;> first | exact new_iv
    · kernel_rfl
    · kernel_rfl
    · kernel_rfl
    · kernel_rfl
    · kernel_rfl
    · kernel_rfl
    · rfl
    · (intro _ _ _ _ _ h; exact h)
    simp only [List.take_succ_cons, List.take_zero, List.drop_succ_cons, List.drop_zero]
    (repeat (first | (refine loose_alloc 6 23 #[.int .i64 0, .int .i64 0, .bool false] new_iv rfl rfl rfl rfl (by simp) ?_) | (refine loose_alloc 7 23 #[.int .i64 0, .int .i64 0, .bool false] new_iv rfl rfl rfl rfl (by simp) ?_) | (refine loose_step rfl (fun K9 hK9 => ?_); go_simp; first | (refine hK9 _ ?_; clear hK9 K9) | (apply Exists.intro; refine ⟨fun _ => ?_, hK9 _ ?_⟩; ((first | (go_at_call 57; with_reducible exact rsag_c _ _ _) | (go_at_call 57; with_reducible exact rsag_c _ ⟨_, _, _⟩ _) | (go_at_call 57; with_reducible exact rsag_c ⟨_, _, ⟨_, _, _⟩, ⟨_, _, _⟩, ⟨_, _, _⟩, ⟨_, _, _⟩, ⟨_, _, _⟩, ⟨_, _, _⟩, ⟨_, _, _⟩⟩ ⟨_, _, _⟩ _) | (go_at_call 58; with_reducible exact radd_c _ _ _) | (go_at_call 58; with_reducible exact radd_c _ ⟨_, _, _⟩ _) | (go_at_call 58; with_reducible exact radd_c ⟨_, _, _⟩ _ _) | (go_at_call 58; with_reducible exact radd_c ⟨_, _, _⟩ ⟨_, _, _⟩ _) | (go_at_call 59; with_reducible exact rsqr_c _ _) | (go_at_call 59; with_reducible exact rsqr_c ⟨_, _, _⟩ _))); clear hK9 K9))))
    intro r
    simp only [allFits]
    rintro _ ⟨b2', rfl, hb2', hc2'⟩ _ ⟨b1', rfl, hb1', hc1'⟩ hfar
    have n12 := hfar 12 13 _ _ _ _ 6 7 rfl rfl rfl rfl rfl rfl (by decide)
    simp [Act.put] at n12
    refine two_end 23 3 (.tmp 6) (.tmp 46) (.tmp 7) (.tmp 47) b1' b2' _ _ (cellsI (sagZ ⟨st, true, sc, sk, sa4, sa6, spl, sop, sra⟩ (ivAdd (ivSqr p.x) (ivSqr p.y)))) (cellsI (sagM ⟨st, true, sc, sk, sa4, sa6, spl, sop, sra⟩ (ivAdd (ivSqr p.x) (ivSqr p.y)))) rfl rfl rfl rfl rfl rfl rfl rfl rfl rfl size_ivT rfl rfl (by decide) (one_iv _ _ _) (one_iv _ _ _) ((More.refl _).more r) hb1' hb2' hc1' rfl hc2' rfl n12 ?_
    clear hfar n12 hb1' hb2' hc1' hc2'
    intro V hMV h1V h2V
    refine wpList_nil ?_
    rw [Hr.out, Hz.out] at h1V
    rw [Hr.out, Hm.out] at h2V
    have hob : V.heap[W.heap.size + (3 + ra.len)]? = some (.cells #[.int .i64 65536, .int .i64 65536, .bool false] 23 (0, 0)) := heap_at _ hMV (by simp [Nat.add_assoc])
    obtain ⟨o1, o2, o3, o4⟩ := iv_cells hob
    clear hob
    have hsbV : OkSfAt V W.heap.size ⟨st, true, sc, sk, sa4, sa6, spl, sop, sra⟩ := heap_at W (More.trans (by repeat (first | exact More.refl _ | refine More.alloc ?_ _ | refine More.more ?_ _ | refine More.drew ?_ | refine More.drewN ?_ _)) hMV) (by simp)
    have hpbV : OkPlAt V (W.heap.size + 1) p := heap_at (W.alloc (.cells #[.bool st, .bool true, .int .i64 sc.lo, .int .i64 sc.hi, .bool sc.no, .int .i64 sk.lo, .int .i64 sk.hi, .bool sk.no, .int .i64 sa4.lo, .int .i64 sa4.hi, .bool sa4.no, .int .i64 sa6.lo, .int .i64 sa6.hi, .bool sa6.no, .int .i64 spl.lo, .int .i64 spl.hi, .bool spl.no, .int .i64 sop.lo, .int .i64 sop.hi, .bool sop.no, .int .i64 sra.lo, .int .i64 sra.hi, .bool sra.no] 25)) (More.trans (by repeat (first | exact More.refl _ | refine More.alloc ?_ _ | refine More.more ?_ _ | refine More.drew ?_ | refine More.drewN ?_ _)) hMV) (by simp)
    have htbV : V.heap[W.heap.size + 2]? = some (.cells #[.int .i64 0, .int .i64 0, .bool false, .int .i64 0, .int .i64 0, .bool false, .int .i64 0, .int .i64 0, .bool false] 30 (0, 0)) := heap_at ((W.alloc (.cells #[.bool st, .bool true, .int .i64 sc.lo, .int .i64 sc.hi, .bool sc.no, .int .i64 sk.lo, .int .i64 sk.hi, .bool sk.no, .int .i64 sa4.lo, .int .i64 sa4.hi, .bool sa4.no, .int .i64 sa6.lo, .int .i64 sa6.hi, .bool sa6.no, .int .i64 spl.lo, .int .i64 spl.hi, .bool spl.no, .int .i64 sop.lo, .int .i64 sop.hi, .bool sop.no, .int .i64 sra.lo, .int .i64 sra.hi, .bool sra.no] 25)).alloc (.cells #[.int .i64 p.x.lo, .int .i64 p.x.hi, .bool p.x.no, .int .i64 p.y.lo, .int .i64 p.y.hi, .bool p.y.no, .int .i64 p.z.lo, .int .i64 p.z.hi, .bool p.z.no] 30)) (More.trans (by repeat (first | exact More.refl _ | refine More.alloc ?_ _ | refine More.more ?_ _ | refine More.drew ?_ | refine More.drewN ?_ _)) hMV) (by simp)
    have hWV : More W V := More.trans (by repeat (first | exact More.refl _ | refine More.alloc ?_ _ | refine More.more ?_ _ | refine More.drew ?_ | refine More.drewN ?_ _)) hMV
    clear hMV
    have HTB := Lib.hid htbV
    have HWV := Lib.hid hWV
    clear htbV hWV
    obtain ⟨l0, -, ⟨l1, l2, l3⟩, ⟨l4, l5, l6⟩, -⟩ := sfat_cells hsbV
    obtain ⟨k0, ⟨k1, k2, k3⟩, ⟨k4, k5, k6⟩, k7, k8, k9⟩ := plat_cells hpbV
    obtain ⟨s1, s2, s3, s4⟩ := iv_cells h1V
    obtain ⟨t1, t2, t3, t4⟩ := iv_cells h2V
    clear hsbV hpbV h1V h2V
    go_upto_region 5 with fail
    (first | (with_reducible refine wp_more_tailq_m (id := 5) 15 ?_ ?_ ?_) | (with_reducible refine wp_more_tailq (id := 5) 15 ?_ ?_ ?_))
    · kernel_rfl
    · kernel_rfl
    (try simp only [List.take_succ_cons, List.take_zero, List.drop_succ_cons, List.drop_zero])
    (try simp only [List.append_eq, List.cons_append, List.nil_append])
    (repeat (any_goals (first | go_big_quiet_step ((first | (go_at_call 53; (with_reducible apply quiet_call); with_reducible exact rvunit_c _ _) | (go_at_call 53; (with_reducible apply quiet_call); with_reducible exact rvunit_c ⟨_, _, _⟩ _) | (go_at_call 53; (with_reducible apply quiet_call); with_reducible exact rvunit_c ⟨⟨_, _, _⟩, ⟨_, _, _⟩, ⟨_, _, _⟩⟩ _) | (go_at_call 54; (with_reducible apply quiet_call); with_reducible exact rneg_c _ _) | (go_at_call 54; (with_reducible apply quiet_call); with_reducible exact rneg_c ⟨_, _, _⟩ _) | (go_at_call 55; (with_reducible apply quiet_call); with_reducible exact rmuliv_c _ _ _) | (go_at_call 55; (with_reducible apply quiet_call); with_reducible exact rmuliv_c _ ⟨_, _, _⟩ _) | (go_at_call 55; (with_reducible apply quiet_call); with_reducible exact rmuliv_c ⟨_, _, _⟩ _ _) | (go_at_call 55; (with_reducible apply quiet_call); with_reducible exact rmuliv_c ⟨_, _, _⟩ ⟨_, _, _⟩ _) | (go_at_call 60; (with_reducible apply quiet_call); with_reducible exact rtimes_c _ _ _) | (go_at_call 60; (with_reducible apply quiet_call); with_reducible exact rtimes_c ⟨_, _, _⟩ _ _))) | quiet_step ((first | (go_at_call 53; (with_reducible apply quiet_call); with_reducible exact rvunit_c _ _) | (go_at_call 53; (with_reducible apply quiet_call); with_reducible exact rvunit_c ⟨_, _, _⟩ _) | (go_at_call 53; (with_reducible apply quiet_call); with_reducible exact rvunit_c ⟨⟨_, _, _⟩, ⟨_, _, _⟩, ⟨_, _, _⟩⟩ _) | (go_at_call 54; (with_reducible apply quiet_call); with_reducible exact rneg_c _ _) | (go_at_call 54; (with_reducible apply quiet_call); with_reducible exact rneg_c ⟨_, _, _⟩ _) | (go_at_call 55; (with_reducible apply quiet_call); with_reducible exact rmuliv_c _ _ _) | (go_at_call 55; (with_reducible apply quiet_call); with_reducible exact rmuliv_c _ ⟨_, _, _⟩ _) | (go_at_call 55; (with_reducible apply quiet_call); with_reducible exact rmuliv_c ⟨_, _, _⟩ _ _) | (go_at_call 55; (with_reducible apply quiet_call); with_reducible exact rmuliv_c ⟨_, _, _⟩ ⟨_, _, _⟩ _) | (go_at_call 60; (with_reducible apply quiet_call); with_reducible exact rtimes_c _ _ _) | (go_at_call 60; (with_reducible apply quiet_call); with_reducible exact rtimes_c ⟨_, _, _⟩ _ _))))))
    (with_reducible refine wpQuiet_nil ?_)
    intro r
    refine one_end 30 9 (.tmp 4) (.tmp 62) (W.heap.size + 2) _ (cellsP (plUnit ⟨ivNeg (ivTimes (ivMul ⟨m1, m2, m3⟩ p.x) 2), ivNeg (ivTimes (ivMul ⟨m1, m2, m3⟩ p.y) 2), ⟨65536, 65536, false⟩⟩)) rfl rfl rfl rfl rfl size_pl rfl (by decide) (one_pl _) (More.trans HWV.out (by repeat (first | exact More.refl _ | refine More.alloc ?_ _ | refine More.more ?_ _ | refine More.drew ?_ | refine More.drewN ?_ _))) (by omega) (heap_up (by repeat (first | exact More.refl _ | refine More.alloc ?_ _ | refine More.more ?_ _ | refine More.drew ?_ | refine More.drewN ?_ _)) HTB.out) rfl ?_
    intro wx hM h1
    refine wpList_nil ?_
    go_wp2_with fail
    exact bodyPost_ret (results_one Try.results22 rfl (load_pl_obj (p := plUnit ⟨ivNeg (ivTimes (ivMul ⟨m1, m2, m3⟩ p.x) 2), ivNeg (ivTimes (ivMul ⟨m1, m2, m3⟩ p.y) 2), ⟨65536, 65536, false⟩⟩) h1)) rfl ⟨rfl, hM⟩
end Go.Proofs.Ytggohceeeggnmaa
