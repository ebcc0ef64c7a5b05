/-
  Rays of raw numbers, and such as lie in others.
-/
import Derived.Test.YtggohceeeggnmaaGreatGq5
import Derived.Test.YtggohceeeggnmaaGreatGb
import Derived.Deep.RegionLaw
import Derived.Deep.Cut
namespace Go.Proofs.YtggohceeeggnmaaGreat
set_option linter.unusedVariables false
open Go.ChangeShapes Go.WideShapes Go.ChangeAt Go.RowKit

def rayW (n : Int) : Int := if n.tmod 5 = 4 then n % 9000 else if n.tmod 5 = 3 then 0 else n % 400
def rayV (n : Int) : Int := if n.tmod 3 = 2 then n % 200 else 0
def hRay (s : Six) : Wy := ⟨⟨hWide (s.a % 655360 - 327680) (rayW s.e), hWide (s.b % 655360 - 327680) (rayW s.e), ⟨0, 0, false⟩⟩, plUnit ⟨hWide (s.c % 30000 - 15000) (rayV s.f), hWide (s.d % 30000 - 15000) (rayV s.f), ⟨65536, 65536, false⟩⟩⟩
set_option maxHeartbeats 4000000 in
theorem hray_c (s : Six) (h : OkSix s) (W : World) :
    Calls Tryz.prog 7 #[sixV s] W fun e w' => e = .returned (wyV (hRay s)) ∧ More W w' := by
  obtain ⟨⟨b0, c0⟩, ⟨b1, c1⟩, ⟨b2, c2⟩, ⟨b3, c3⟩, ⟨b4, c4⟩, b5, c5⟩ := h
  have h4 := Int.tmod_lt_of_pos s.e (show (0 : Int) < 5 by omega)
  have h5 := Int.tmod_lt_of_pos s.f (show (0 : Int) < 3 by omega)
  unfold hRay
  obtain ⟨V, hV⟩ : ∃ V, rayV s.f = V := ⟨_, rfl⟩
  obtain ⟨W', hW⟩ : ∃ W', rayW s.e = W' := ⟨_, rfl⟩
  have hVb : 0 ≤ V ∧ V < 200 := by
    rw [← hV]; unfold rayV; split <;> omega
  have hWb : 0 ≤ W' ∧ W' < 9000 := by
    rw [← hW]; unfold rayW; split
    · omega
    · split <;> omega
  rw [hW, hV]
  obtain ⟨x, y, u, v, e, f⟩ := s
  dsimp only at b0 c0 b1 c1 b2 c2 b3 c3 b4 c4 b5 c5 h4 h5 hW hV ⊢
  obtain ⟨E1, hE1⟩ : ∃ E1, (if e.tmod 5 = 4 then e % 9000 else e % 400) = E1 := ⟨_, rfl⟩
  have hE2 : (if e.tmod 5 = 3 then 0 else E1) = W' := by
    rw [← hW, ← hE1]; unfold rayW
    by_cases g1 : e.tmod 5 = 4
    · rw [if_pos g1, if_pos g1, if_neg (by omega)]
    · rw [if_neg g1, if_neg g1]
  have hE3 : (if f.tmod 3 = 2 then f % 200 else 0) = V := hV
  clear hW hV
  obtain ⟨X, hX⟩ : ∃ X, x % 655360 = X := ⟨_, rfl⟩
  obtain ⟨Y, hY⟩ : ∃ Y, y % 655360 = Y := ⟨_, rfl⟩
  obtain ⟨U, hU⟩ : ∃ U, u % 30000 = U := ⟨_, rfl⟩
  obtain ⟨Z, hZ⟩ : ∃ Z, v % 30000 = Z := ⟨_, rfl⟩
  have bX : 0 ≤ X ∧ X < 655360 := by omega
  have bY : 0 ≤ Y ∧ Y < 655360 := by omega
  have bU : 0 ≤ U ∧ U < 30000 := by omega
  have bZ : 0 ≤ Z ∧ Z < 30000 := by omega
  rw [hX, hY, hU, hZ]
  obtain ⟨X0, X1⟩ := bX
  obtain ⟨Y0, Y1⟩ := bY
  obtain ⟨U0, U1⟩ := bU
  obtain ⟨Z0, Z1⟩ := bZ
  obtain ⟨V0, V1⟩ := hVb
  obtain ⟨W0, W1⟩ := hWb
  obtain ⟨⟨p1, p2, p3⟩, hp⟩ : ∃ d, hWide (U - 15000) V = d := ⟨_, rfl⟩
  obtain ⟨⟨q1, q2, q3⟩, hq⟩ : ∃ d, hWide (Z - 15000) V = d := ⟨_, rfl⟩
  obtain ⟨⟨m1, m2, m3⟩, hm⟩ : ∃ d, hWide (X - 327680) W' = d := ⟨_, rfl⟩
  obtain ⟨⟨n1, n2, n3⟩, hn⟩ : ∃ d, hWide (Y - 327680) W' = d := ⟨_, rfl⟩
  rw [hp, hq, hm, hn]
  obtain ⟨⟨⟨k1, k2, k3⟩, ⟨l1, l2, l3⟩, ⟨o1, o2, o3⟩⟩, hu⟩ : ∃ d, plUnit ⟨⟨p1, p2, p3⟩, ⟨q1, q2, q3⟩, ⟨65536, 65536, false⟩⟩ = d := ⟨_, rfl⟩
  rw [hu]
  go_enter Tryz.func7, Tryz.ntmps7
  go_upto_if 12 with (first | (first | (go_at_call 30; (with_reducible refine (pick_c _ _ (by omega) (by omega) (by omega) (by omega) _).mono ?_); rintro e w' ⟨rfl, rfl⟩)))
  go_cut [3] from 6 (fun a wx => a = .int .i64 E1 ∧ wx = (W.alloc (.cells #[.int .i64 x, .int .i64 y, .int .i64 u, .int .i64 v, .int .i64 e, .int .i64 f] 37)).alloc (.cells #[.int .i64 0, .int .i64 0, .bool false, .int .i64 0, .int .i64 0, .bool false, .int .i64 0, .int .i64 0, .bool false, .int .i64 0, .int .i64 0, .bool false, .int .i64 0, .int .i64 0, .bool false, .int .i64 0, .int .i64 0, .bool false] 34))
  case first =>
    by_cases g1 : e.tmod 5 = 4
    · rw [if_pos g1] at hE1
      go_wp2_with (first | (first | (go_at_call 30; (with_reducible refine (pick_c _ _ (by omega) (by omega) (by omega) (by omega) _).mono ?_); rintro e w' ⟨rfl, rfl⟩)))
      go_meet
      exact ⟨by first | rfl | rw [hE1], rfl⟩
    · rw [if_neg g1] at hE1
      go_wp2_with (first | (first | (go_at_call 30; (with_reducible refine (pick_c _ _ (by omega) (by omega) (by omega) (by omega) _).mono ?_); rintro e w' ⟨rfl, rfl⟩)))
      go_meet
      exact ⟨by first | rfl | rw [hE1], rfl⟩
  case rest =>
    obtain ⟨rfl, rfl⟩ := hcut
    clear hE1
    go_upto_if 19 with (first | (first | (go_at_call 30; (with_reducible refine (pick_c _ _ (by omega) (by omega) (by omega) (by omega) _).mono ?_); rintro e w' ⟨rfl, rfl⟩)))
    go_cut [3] from 6 (fun a wx => a = .int .i64 W' ∧ wx = (W.alloc (.cells #[.int .i64 x, .int .i64 y, .int .i64 u, .int .i64 v, .int .i64 e, .int .i64 f] 37)).alloc (.cells #[.int .i64 0, .int .i64 0, .bool false, .int .i64 0, .int .i64 0, .bool false, .int .i64 0, .int .i64 0, .bool false, .int .i64 0, .int .i64 0, .bool false, .int .i64 0, .int .i64 0, .bool false, .int .i64 0, .int .i64 0, .bool false] 34))
    case first =>
      by_cases g1 : e.tmod 5 = 3
      · rw [if_pos g1] at hE2
        go_wp2_with (first | (first | (go_at_call 30; (with_reducible refine (pick_c _ _ (by omega) (by omega) (by omega) (by omega) _).mono ?_); rintro e w' ⟨rfl, rfl⟩)))
        go_meet
        exact ⟨by first | rfl | rw [hE2], rfl⟩
      · rw [if_neg g1] at hE2
        go_wp2_with (first | (first | (go_at_call 30; (with_reducible refine (pick_c _ _ (by omega) (by omega) (by omega) (by omega) _).mono ?_); rintro e w' ⟨rfl, rfl⟩)))
        go_meet
        exact ⟨by first | rfl | rw [hE2], rfl⟩
    case rest =>
      obtain ⟨rfl, rfl⟩ := hcut
      clear hE2
      go_upto_if 23 with (first | (first | (go_at_call 30; (with_reducible refine (pick_c _ _ (by omega) (by omega) (by omega) (by omega) _).mono ?_); rintro e w' ⟨rfl, rfl⟩)))
      go_cut [4] from 6 (fun a wx => a = .int .i64 V ∧ wx = (W.alloc (.cells #[.int .i64 x, .int .i64 y, .int .i64 u, .int .i64 v, .int .i64 e, .int .i64 f] 37)).alloc (.cells #[.int .i64 0, .int .i64 0, .bool false, .int .i64 0, .int .i64 0, .bool false, .int .i64 0, .int .i64 0, .bool false, .int .i64 0, .int .i64 0, .bool false, .int .i64 0, .int .i64 0, .bool false, .int .i64 0, .int .i64 0, .bool false] 34))
      case first =>
        by_cases g1 : f.tmod 3 = 2
        · rw [if_pos g1] at hE3
          go_wp2_with (first | (first | (go_at_call 30; (with_reducible refine (pick_c _ _ (by omega) (by omega) (by omega) (by omega) _).mono ?_); rintro e w' ⟨rfl, rfl⟩)))
          go_meet
          exact ⟨by first | rfl | rw [hE3], rfl⟩
        · rw [if_neg g1] at hE3
          go_wp2_with (first | (first | (go_at_call 30; (with_reducible refine (pick_c _ _ (by omega) (by omega) (by omega) (by omega) _).mono ?_); rintro e w' ⟨rfl, rfl⟩)))
          go_meet
          exact ⟨by first | rfl | rw [hE3], rfl⟩
      case rest =>
        obtain ⟨rfl, rfl⟩ := hcut
        clear hE3 h4 h5
        go_wp2_with (first | (first | (go_at_call 30; (with_reducible refine (pick_c _ _ (by omega) (by omega) (by omega) (by omega) _).mono ?_); rintro e w' ⟨rfl, rfl⟩) | (go_at_call 31; (with_reducible refine (rvunit_c _ _).mono ?_); rintro e w' ⟨rfl, r, rfl⟩) | (go_at_call 31; (with_reducible refine (rvunit_c ⟨_, _, _⟩ _).mono ?_); rintro e w' ⟨rfl, r, rfl⟩) | (go_at_call 31; (with_reducible refine (rvunit_c ⟨⟨_, _, _⟩, ⟨_, _, _⟩, ⟨_, _, _⟩⟩ _).mono ?_); rintro e w' ⟨rfl, r, rfl⟩) | (go_at_call 32; (with_reducible refine (hwide_c _ _ (by omega) (by omega) _).mono ?_); rintro e w' ⟨rfl, r, rfl⟩) | ((with_reducible show Code.wp _ (Code.region 9 _ true) _ _ _); (with_reducible apply wp_more_heap_m (id := 9) 16 15 5); kernel_rfl; kernel_rfl; rfl; decide; rfl; (intro _ _; go_simp; rfl); intro x; (try simp only [List.append_eq, List.cons_append, List.nil_append]); (simp only [List.take_succ_cons, List.take_zero, List.drop_succ_cons, List.drop_zero, skipAt, Nat.reduceAdd, Nat.reduceEqDiff, reduceIte, Nat.zero_add]); (repeat (any_goals (first | go_big_quiet_step ((first | (go_at_call 30; (with_reducible apply quiet_up_same); with_reducible exact pick_c _ _ (by omega) (by omega) (by omega) (by omega) _) | (go_at_call 31; (with_reducible apply quiet_up); with_reducible exact rvunit_c _ _) | (go_at_call 31; (with_reducible apply quiet_up); with_reducible exact rvunit_c ⟨_, _, _⟩ _) | (go_at_call 31; (with_reducible apply quiet_up); with_reducible exact rvunit_c ⟨⟨_, _, _⟩, ⟨_, _, _⟩, ⟨_, _, _⟩⟩ _) | (go_at_call 32; (with_reducible apply quiet_up); with_reducible exact hwide_c _ _ (by omega) (by omega) _))) | quiet_step ((first | (go_at_call 30; (with_reducible apply quiet_up_same); with_reducible exact pick_c _ _ (by omega) (by omega) (by omega) (by omega) _) | (go_at_call 31; (with_reducible apply quiet_up); with_reducible exact rvunit_c _ _) | (go_at_call 31; (with_reducible apply quiet_up); with_reducible exact rvunit_c ⟨_, _, _⟩ _) | (go_at_call 31; (with_reducible apply quiet_up); with_reducible exact rvunit_c ⟨⟨_, _, _⟩, ⟨_, _, _⟩, ⟨_, _, _⟩⟩ _) | (go_at_call 32; (with_reducible apply quiet_up); with_reducible exact hwide_c _ _ (by omega) (by omega) _)))))); (with_reducible refine wpQuiet_nil ?_); intro r1 r2) | ((with_reducible show Code.wp _ (Code.region 9 _ true) _ _ _); (with_reducible apply wp_more_heap (id := 9) 16 15 5); kernel_rfl; kernel_rfl; rfl; decide; rfl; (intro _ _; go_simp; rfl); intro x; (try simp only [List.append_eq, List.cons_append, List.nil_append]); (simp only [List.take_succ_cons, List.take_zero, List.drop_succ_cons, List.drop_zero, skipAt, Nat.reduceAdd, Nat.reduceEqDiff, reduceIte, Nat.zero_add]); (repeat (any_goals (first | go_big_quiet_step ((first | (go_at_call 30; (with_reducible apply quiet_up_same); with_reducible exact pick_c _ _ (by omega) (by omega) (by omega) (by omega) _) | (go_at_call 31; (with_reducible apply quiet_up); with_reducible exact rvunit_c _ _) | (go_at_call 31; (with_reducible apply quiet_up); with_reducible exact rvunit_c ⟨_, _, _⟩ _) | (go_at_call 31; (with_reducible apply quiet_up); with_reducible exact rvunit_c ⟨⟨_, _, _⟩, ⟨_, _, _⟩, ⟨_, _, _⟩⟩ _) | (go_at_call 32; (with_reducible apply quiet_up); with_reducible exact hwide_c _ _ (by omega) (by omega) _))) | quiet_step ((first | (go_at_call 30; (with_reducible apply quiet_up_same); with_reducible exact pick_c _ _ (by omega) (by omega) (by omega) (by omega) _) | (go_at_call 31; (with_reducible apply quiet_up); with_reducible exact rvunit_c _ _) | (go_at_call 31; (with_reducible apply quiet_up); with_reducible exact rvunit_c ⟨_, _, _⟩ _) | (go_at_call 31; (with_reducible apply quiet_up); with_reducible exact rvunit_c ⟨⟨_, _, _⟩, ⟨_, _, _⟩, ⟨_, _, _⟩⟩ _) | (go_at_call 32; (with_reducible apply quiet_up); with_reducible exact hwide_c _ _ (by omega) (by omega) _)))))); (with_reducible refine wpQuiet_nil ?_); intro r1 r2) | ((with_reducible show Code.wp _ (Code.region 10 _ true) _ _ _); (with_reducible refine wp_more_tailq_m (id := 10) 16 ?_ ?_ ?_); kernel_rfl; kernel_rfl; (try simp only [List.take_succ_cons, List.take_zero, List.drop_succ_cons, List.drop_zero]); (repeat (any_goals (first | go_big_quiet_step ((first | (go_at_call 30; (with_reducible apply quiet_call_same); with_reducible exact pick_c _ _ (by omega) (by omega) (by omega) (by omega) _) | (go_at_call 32; (with_reducible apply quiet_call); with_reducible exact hwide_c _ _ (by omega) (by omega) _))) | quiet_step ((first | (go_at_call 30; (with_reducible apply quiet_call_same); with_reducible exact pick_c _ _ (by omega) (by omega) (by omega) (by omega) _) | (go_at_call 32; (with_reducible apply quiet_call); with_reducible exact hwide_c _ _ (by omega) (by omega) _)))))); (with_reducible refine wpQuiet_nil ?_); intro r) | ((with_reducible show Code.wp _ (Code.region 10 _ true) _ _ _); (with_reducible refine wp_more_tailq (id := 10) 16 ?_ ?_ ?_); kernel_rfl; kernel_rfl; (try simp only [List.take_succ_cons, List.take_zero, List.drop_succ_cons, List.drop_zero]); (repeat (any_goals (first | go_big_quiet_step ((first | (go_at_call 30; (with_reducible apply quiet_call_same); with_reducible exact pick_c _ _ (by omega) (by omega) (by omega) (by omega) _) | (go_at_call 32; (with_reducible apply quiet_call); with_reducible exact hwide_c _ _ (by omega) (by omega) _))) | quiet_step ((first | (go_at_call 30; (with_reducible apply quiet_call_same); with_reducible exact pick_c _ _ (by omega) (by omega) (by omega) (by omega) _) | (go_at_call 32; (with_reducible apply quiet_call); with_reducible exact hwide_c _ _ (by omega) (by omega) _)))))); (with_reducible refine wpQuiet_nil ?_); intro r)))
        go_returns
        exact ⟨rfl, (by repeat (first | exact More.refl _ | refine More.alloc ?_ _ | refine More.more ?_ _ | refine More.drew ?_ | refine More.drewN ?_ _))⟩
end Go.Proofs.YtggohceeeggnmaaGreat
