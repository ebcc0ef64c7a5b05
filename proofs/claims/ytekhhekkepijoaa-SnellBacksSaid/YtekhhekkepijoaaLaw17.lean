/-
  Chapter 17's example; unit ways of raw numbers.
-/
import Derived.Test.YtekhhekkepijoaaSnell
import Derived.Test.YtekhhekkepijoaaGq5
namespace Go.Proofs.Ytekhhekkepijoaa
set_option linter.unusedVariables false
open Go.ChangeShapes Go.WideShapes Go.ChangeAt Go.RowKit

theorem eqIn_iv17 (x1 x2 y1 y2 : Int) (n m : Bool) (w : World) : (Op.equalIn 9999 23 (.agg #[.int .i64 x1, .int .i64 x2, .bool n]) (.agg #[.int .i64 y1, .int .i64 y2, .bool m])).run Try.prog w = .ok (x1 == y1 && (x2 == y2 && n == m)) w := by
  have hS : Try.prog.underlying 23 = some (.struct (Try.prog.fieldsOf 23)) := by kernel_rfl
  have hp : Try.prog.stoodInHeld 23 = false := by kernel_rfl
  rw [show (9999 : Nat) = 9998 + 1 from rfl, run_equalIn_agg w 9998 _ _ _ hS hp]
  simp only [Program.fieldsOf, Try.underlying23]
  go_simp
  by_cases h1 : x1 = y1 <;> by_cases h2 : x2 = y2 <;> by_cases h3 : n = m <;> simp [h1, h2, h3]

set_option maxHeartbeats 4000000 in
set_option maxRecDepth 100000 in
theorem eql_pl17 (a1 a2 b1 b2 c1 c2 : Int) (a3 b3 c3 : Bool) (w : World) : (binOp .eql 25 (.agg #[.int .i64 a1, .int .i64 a2, .bool a3, .int .i64 b1, .int .i64 b2, .bool b3, .int .i64 c1, .int .i64 c2, .bool c3]) (.agg #[.int .i64 a1, .int .i64 a2, .bool a3, .int .i64 b1, .int .i64 b2, .bool b3, .int .i64 c1, .int .i64 c2, .bool c3])).run Try.prog w = .ok (.bool true) w := by
  have hS : Try.prog.underlying 25 = some (.struct (Try.prog.fieldsOf 25)) := by kernel_rfl
  have hp : Try.prog.stoodInHeld 25 = false := by kernel_rfl
  have hd : ∀ (x1 x2 : Int) (n : Bool) (w : World), (Op.equalIn 9999 23 (.agg #[.int .i64 x1, .int .i64 x2, .bool n]) (.agg #[.int .i64 x1, .int .i64 x2, .bool n])).run Try.prog w = .ok true w := fun x1 x2 n w => by rw [eqIn_iv17]; simp
  rw [run_eql_struct, show (10000 : Nat) = 9999 + 1 from rfl, run_equalIn_agg w 9999 _ _ _ hS hp]
  simp only [Program.fieldsOf, Try.underlying25]
  go_simp

set_option maxHeartbeats 4000000 in
set_option maxRecDepth 100000 in
theorem neql_pl17 (a1 a2 b1 b2 c1 c2 : Int) (a3 b3 c3 : Bool) (w : World) : (binOp .neq 25 (.agg #[.int .i64 a1, .int .i64 a2, .bool a3, .int .i64 b1, .int .i64 b2, .bool b3, .int .i64 c1, .int .i64 c2, .bool c3]) (.agg #[.int .i64 a1, .int .i64 a2, .bool a3, .int .i64 b1, .int .i64 b2, .bool b3, .int .i64 c1, .int .i64 c2, .bool c3])).run Try.prog w = .ok (.bool false) w := by
  have hS : Try.prog.underlying 25 = some (.struct (Try.prog.fieldsOf 25)) := by kernel_rfl
  have hp : Try.prog.stoodInHeld 25 = false := by kernel_rfl
  have hd : ∀ (x1 x2 : Int) (n : Bool) (w : World), (Op.equalIn 9999 23 (.agg #[.int .i64 x1, .int .i64 x2, .bool n]) (.agg #[.int .i64 x1, .int .i64 x2, .bool n])).run Try.prog w = .ok true w := fun x1 x2 n w => by rw [eqIn_iv17]; simp
  rw [run_neq_struct, show (10000 : Nat) = 9999 + 1 from rfl, run_equalIn_agg w 9999 _ _ _ hS hp]
  simp only [Program.fieldsOf, Try.underlying25]
  go_simp

def hLean (x y w : Int) : Pl := plUnit ⟨hWide (x % 90000 - 45000) (w % 300), hWide (y % 90000 - 45000) (w % 300), ⟨65536, 65536, false⟩⟩

set_option maxHeartbeats 4000000 in
theorem axis17_c  (W : World) :
    Calls Try.prog 12 #[] W fun e w' => e = .returned (plV ⟨⟨0, 0, false⟩, ⟨0, 0, false⟩, ⟨65536, 65536, false⟩⟩) ∧ More W w' := by
  have h0 : ivPoint 0 = ⟨0, 0, false⟩ := by kernel_rfl
  have h1 : ivWhole 1 = ⟨65536, 65536, false⟩ := by kernel_rfl
  go_enter Try.func12, Try.ntmps12
  go_wp2_with (first | (go_at_call 8; (with_reducible refine (vof_c _ _ _ _).mono ?_); rintro e w' ⟨rfl, r, rfl⟩) | (go_at_call 8; (with_reducible refine (vof_c ⟨_, _, _⟩ ⟨_, _, _⟩ ⟨_, _, _⟩ _).mono ?_); rintro e w' ⟨rfl, r, rfl⟩) | (go_at_call 10; (with_reducible refine (point_c _ _).mono ?_); rintro e w' ⟨rfl, r, rfl⟩) | (go_at_call 14; (with_reducible refine (whole_c _ _).mono ?_); rintro e w' ⟨rfl, r, rfl⟩))
  go_returns
  exact ⟨rfl, (by repeat (first | exact More.refl _ | refine More.alloc ?_ _ | refine More.more ?_ _ | refine More.drew ?_ | refine More.drewN ?_ _))⟩

set_option maxHeartbeats 4000000 in
theorem lean17_c (x y w : Int) (hx : -9223372036854775808 ≤ x) (hx' : x ≤ 9223372036854775807) (hy : -9223372036854775808 ≤ y) (hy' : y ≤ 9223372036854775807) (hw : -9223372036854775808 ≤ w) (hw' : w ≤ 9223372036854775807) (W : World) :
    Calls Try.prog 18 #[.int .i64 x, .int .i64 y, .int .i64 w] W fun e w' => e = .returned (plV (hLean x y w)) ∧ More W w' := by
  have h1 : ivWhole 1 = ⟨65536, 65536, false⟩ := by kernel_rfl
  unfold hLean
  obtain ⟨X, hX⟩ : ∃ X, x % 90000 = X := ⟨_, rfl⟩
  obtain ⟨Y, hY⟩ : ∃ Y, y % 90000 = Y := ⟨_, rfl⟩
  obtain ⟨V, hV⟩ : ∃ V, w % 300 = V := ⟨_, rfl⟩
  have X0 : 0 ≤ X := by omega
  have X1 : X < 90000 := by omega
  have Y0 : 0 ≤ Y := by omega
  have Y1 : Y < 90000 := by omega
  have V0 : 0 ≤ V := by omega
  have V1 : V < 300 := by omega
  rw [hX, hY, hV]
  obtain ⟨⟨p1, p2, p3⟩, hp⟩ : ∃ d, hWide (X - 45000) V = d := ⟨_, rfl⟩
  obtain ⟨⟨q1, q2, q3⟩, hq⟩ : ∃ d, hWide (Y - 45000) V = d := ⟨_, rfl⟩
  rw [hp, hq]
  go_enter Try.func18, Try.ntmps18
  go_wp2_with (first | (go_at_call 14; (with_reducible refine (whole_c _ _).mono ?_); rintro e w' ⟨rfl, r, rfl⟩) | (go_at_call 21; (with_reducible refine (hwide_c _ _ (by omega) (by omega) _).mono ?_); rintro e w' ⟨rfl, r, rfl⟩) | (go_at_call 22; (with_reducible refine (pick_c _ _ (by omega) (by omega) (by omega) (by omega) _).mono ?_); rintro e w' ⟨rfl, rfl⟩) | (go_at_call 42; (with_reducible refine (vunit_c _ _).mono ?_); rintro e w' ⟨rfl, r, rfl⟩) | (go_at_call 42; (with_reducible refine (vunit_c ⟨_, _, _⟩ _).mono ?_); rintro e w' ⟨rfl, r, rfl⟩) | (go_at_call 42; (with_reducible refine (vunit_c ⟨⟨_, _, _⟩, ⟨_, _, _⟩, ⟨_, _, _⟩⟩ _).mono ?_); rintro e w' ⟨rfl, r, rfl⟩))
  go_returns
  exact ⟨rfl, (by repeat (first | exact More.refl _ | refine More.alloc ?_ _ | refine More.more ?_ _ | refine More.drew ?_ | refine More.drewN ?_ _))⟩

set_option maxHeartbeats 4000000 in
set_option maxRecDepth 100000 in
theorem known17_c  (W : World) :
    Calls Try.prog 16 #[] W fun e w' => e = .returned (.bool true) ∧ More W w' := by
  have h0 : ivPoint 98304 = ⟨98304, 98304, false⟩ := by kernel_rfl
  have k1 : bendP ⟨⟨0, 0, false⟩, ⟨0, 0, false⟩, ⟨65536, 65536, false⟩⟩ ⟨⟨0, 0, false⟩, ⟨0, 0, false⟩, ⟨65536, 65536, false⟩⟩ ⟨98304, 98304, false⟩ = (⟨⟨0, 0, false⟩, ⟨0, 0, false⟩, ⟨65536, 65536, false⟩⟩, 1) := by kernel_rfl
  have k3 : ivRight ⟨65536, 65536, false⟩ = true := by decide
  have E := eql_pl17
  go_enter Try.func16, Try.ntmps16
  go_wp2_with (first | (go_at_call 11; (with_reducible refine (bend_c ⟨⟨0, 0, false⟩, ⟨0, 0, false⟩, ⟨65536, 65536, false⟩⟩ ⟨⟨0, 0, false⟩, ⟨0, 0, false⟩, ⟨65536, 65536, false⟩⟩ ⟨98304, 98304, false⟩ _).mono ?_); rintro e w' ⟨rfl, r, rfl⟩; rw [k1]; dsimp only) | (go_at_call 10; (with_reducible refine (point_c _ _).mono ?_); rintro e w' ⟨rfl, r, rfl⟩) | (go_at_call 11; (with_reducible refine (bend_c _ _ _ _).mono ?_); rintro e w' ⟨rfl, r, rfl⟩) | (go_at_call 11; (with_reducible refine (bend_c ⟨_, _, _⟩ ⟨_, _, _⟩ ⟨_, _, _⟩ _).mono ?_); rintro e w' ⟨rfl, r, rfl⟩) | (go_at_call 11; (with_reducible refine (bend_c ⟨⟨_, _, _⟩, ⟨_, _, _⟩, ⟨_, _, _⟩⟩ ⟨_, _, _⟩ ⟨_, _, _⟩ _).mono ?_); rintro e w' ⟨rfl, r, rfl⟩) | (go_at_call 11; (with_reducible refine (bend_c ⟨_, _, _⟩ ⟨⟨_, _, _⟩, ⟨_, _, _⟩, ⟨_, _, _⟩⟩ ⟨_, _, _⟩ _).mono ?_); rintro e w' ⟨rfl, r, rfl⟩) | (go_at_call 11; (with_reducible refine (bend_c ⟨⟨_, _, _⟩, ⟨_, _, _⟩, ⟨_, _, _⟩⟩ ⟨⟨_, _, _⟩, ⟨_, _, _⟩, ⟨_, _, _⟩⟩ ⟨_, _, _⟩ _).mono ?_); rintro e w' ⟨rfl, r, rfl⟩) | (go_at_call 12; (with_reducible refine (axis17_c _).mono ?_); rintro e w' ⟨rfl, r, rfl⟩) | (go_at_call 30; (with_reducible refine (right_c _ _).mono ?_); rintro e w' ⟨rfl, r, rfl⟩) | (go_at_call 30; (with_reducible refine (right_c ⟨_, _, _⟩ _).mono ?_); rintro e w' ⟨rfl, r, rfl⟩) | ((with_reducible show Code.wp _ (Code.region 2 _ true) _ _ _); (with_reducible refine wp_more_quick_m (id := 2) ?_ ?_ ?_); kernel_rfl; kernel_rfl; (try simp only [List.take_succ_cons, List.take_zero, List.drop_succ_cons, List.drop_zero]); (repeat (any_goals (first | go_big_quiet_step ((first | (go_at_call 12; (with_reducible apply quiet_call); with_reducible exact axis17_c _) | (go_at_call 30; (with_reducible apply quiet_call_b); (with_reducible exact right_c _ _); with_reducible assumption) | (go_at_call 30; (with_reducible apply quiet_call); with_reducible exact right_c _ _) | (go_at_call 30; (with_reducible apply quiet_call_b); (with_reducible exact right_c ⟨_, _, _⟩ _); with_reducible assumption) | (go_at_call 30; (with_reducible apply quiet_call); with_reducible exact right_c ⟨_, _, _⟩ _))) | quiet_step ((first | (go_at_call 12; (with_reducible apply quiet_call); with_reducible exact axis17_c _) | (go_at_call 30; (with_reducible apply quiet_call_b); (with_reducible exact right_c _ _); with_reducible assumption) | (go_at_call 30; (with_reducible apply quiet_call); with_reducible exact right_c _ _) | (go_at_call 30; (with_reducible apply quiet_call_b); (with_reducible exact right_c ⟨_, _, _⟩ _); with_reducible assumption) | (go_at_call 30; (with_reducible apply quiet_call); with_reducible exact right_c ⟨_, _, _⟩ _)))))); (with_reducible refine wpQuiet_nil ?_); intro r) | ((with_reducible show Code.wp _ (Code.region 2 _ true) _ _ _); (with_reducible refine wp_more_quick (id := 2) ?_ ?_ ?_); kernel_rfl; kernel_rfl; (try simp only [List.take_succ_cons, List.take_zero, List.drop_succ_cons, List.drop_zero]); (repeat (any_goals (first | go_big_quiet_step ((first | (go_at_call 12; (with_reducible apply quiet_call); with_reducible exact axis17_c _) | (go_at_call 30; (with_reducible apply quiet_call_b); (with_reducible exact right_c _ _); with_reducible assumption) | (go_at_call 30; (with_reducible apply quiet_call); with_reducible exact right_c _ _) | (go_at_call 30; (with_reducible apply quiet_call_b); (with_reducible exact right_c ⟨_, _, _⟩ _); with_reducible assumption) | (go_at_call 30; (with_reducible apply quiet_call); with_reducible exact right_c ⟨_, _, _⟩ _))) | quiet_step ((first | (go_at_call 12; (with_reducible apply quiet_call); with_reducible exact axis17_c _) | (go_at_call 30; (with_reducible apply quiet_call_b); (with_reducible exact right_c _ _); with_reducible assumption) | (go_at_call 30; (with_reducible apply quiet_call); with_reducible exact right_c _ _) | (go_at_call 30; (with_reducible apply quiet_call_b); (with_reducible exact right_c ⟨_, _, _⟩ _); with_reducible assumption) | (go_at_call 30; (with_reducible apply quiet_call); with_reducible exact right_c ⟨_, _, _⟩ _)))))); (with_reducible refine wpQuiet_nil ?_); intro r))
  all_goals
    go_returns
    exact ⟨rfl, (by repeat (first | exact More.refl _ | refine More.alloc ?_ _ | refine More.more ?_ _ | refine More.drew ?_ | refine More.drewN ?_ _))⟩
end Go.Proofs.Ytekhhekkepijoaa
