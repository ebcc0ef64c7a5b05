/-
  Places of raw numbers, of small ones, and such as lie in others; chapter 5's example.
-/
import Derived.Test.YtgpmalenidonfaaVec
namespace Go.Proofs.Ytgpmalenidonfaa
set_option linter.unusedVariables false
open Go.ChangeShapes Go.WideShapes Go.ChangeAt Go.RowKit

structure Six where
  a : Int
  b : Int
  c : Int
  d : Int
  e : Int
  f : Int

@[reducible] def sixV (s : Six) : Value := .agg #[.int .i64 s.a, .int .i64 s.b, .int .i64 s.c, .int .i64 s.d, .int .i64 s.e, .int .i64 s.f]

@[reducible] def In64 (n : Int) : Prop := -9223372036854775808 ≤ n ∧ n ≤ 9223372036854775807
def OkSix (s : Six) : Prop := In64 s.a ∧ In64 s.b ∧ In64 s.c ∧ In64 s.d ∧ In64 s.e ∧ In64 s.f

def hPl (s : Six) : Pl := ⟨hIv s.a s.b, hIv s.c s.d, hIv s.e s.f⟩
def tPl (s : Six) : Pl := ⟨hTame s.a s.b, hTame s.c s.d, hTame s.e s.f⟩
def hInV (a : Pl) (x y : Int) : Pl := ⟨hIn a.x x y, hIn a.y (x.tdiv 3) (y.tdiv 5), hIn a.z (x.tdiv 7) (y.tdiv 11)⟩

set_option maxHeartbeats 4000000 in
theorem hv_c (s : Six) (h : OkSix s) (W : World) :
    Calls Try.prog 26 #[sixV s] W fun e w' => e = .returned (plV (hPl s)) ∧ More W w' := by
  obtain ⟨⟨b0, c0⟩, ⟨b1, c1⟩, ⟨b2, c2⟩, ⟨b3, c3⟩, ⟨b4, c4⟩, b5, c5⟩ := h
  go_enter Try.func26, Try.ntmps26
  go_wp2_with (first | (go_at_call 27; (with_reducible refine (hiv_c _ _ (by omega) (by omega) (by omega) (by omega) _).mono ?_); rintro e w' ⟨rfl, r, rfl⟩) | ((with_reducible show Code.wp _ (Code.region 1 _ true) _ _ _); (with_reducible refine wp_more_tailq_m (id := 1) 16 ?_ ?_ ?_); kernel_rfl; kernel_rfl; (try simp only [List.take_succ_cons, List.take_zero, List.drop_succ_cons, List.drop_zero]); (repeat (any_goals (first | go_big_quiet_step ((first | (go_at_call 27; (with_reducible apply quiet_call); with_reducible exact hiv_c _ _ (by omega) (by omega) (by omega) (by omega) _))) | quiet_step ((first | (go_at_call 27; (with_reducible apply quiet_call); with_reducible exact hiv_c _ _ (by omega) (by omega) (by omega) (by omega) _)))))); (with_reducible refine wpQuiet_nil ?_); intro r) | ((with_reducible show Code.wp _ (Code.region 1 _ true) _ _ _); (with_reducible refine wp_more_tailq (id := 1) 16 ?_ ?_ ?_); kernel_rfl; kernel_rfl; (try simp only [List.take_succ_cons, List.take_zero, List.drop_succ_cons, List.drop_zero]); (repeat (any_goals (first | go_big_quiet_step ((first | (go_at_call 27; (with_reducible apply quiet_call); with_reducible exact hiv_c _ _ (by omega) (by omega) (by omega) (by omega) _))) | quiet_step ((first | (go_at_call 27; (with_reducible apply quiet_call); with_reducible exact hiv_c _ _ (by omega) (by omega) (by omega) (by omega) _)))))); (with_reducible refine wpQuiet_nil ?_); intro r))
  go_returns
  exact ⟨rfl, (by repeat (first | exact More.refl _ | refine More.alloc ?_ _ | refine More.more ?_ _ | refine More.drew ?_ | refine More.drewN ?_ _))⟩

set_option maxHeartbeats 4000000 in
theorem tame5_c (s : Six) (h : OkSix s) (W : World) :
    Calls Try.prog 40 #[sixV s] W fun e w' => e = .returned (plV (tPl s)) ∧ More W w' := by
  obtain ⟨⟨b0, c0⟩, ⟨b1, c1⟩, ⟨b2, c2⟩, ⟨b3, c3⟩, ⟨b4, c4⟩, b5, c5⟩ := h
  go_enter Try.func40, Try.ntmps40
  go_wp2_with (first | (go_at_call 47; (with_reducible refine (htame_c _ _ (by omega) (by omega) (by omega) (by omega) _).mono ?_); rintro e w' ⟨rfl, r, rfl⟩) | ((with_reducible show Code.wp _ (Code.region 1 _ true) _ _ _); (with_reducible refine wp_more_tailq_m (id := 1) 16 ?_ ?_ ?_); kernel_rfl; kernel_rfl; (try simp only [List.take_succ_cons, List.take_zero, List.drop_succ_cons, List.drop_zero]); (repeat (any_goals (first | go_big_quiet_step ((first | (go_at_call 47; (with_reducible apply quiet_call); with_reducible exact htame_c _ _ (by omega) (by omega) (by omega) (by omega) _))) | quiet_step ((first | (go_at_call 47; (with_reducible apply quiet_call); with_reducible exact htame_c _ _ (by omega) (by omega) (by omega) (by omega) _)))))); (with_reducible refine wpQuiet_nil ?_); intro r) | ((with_reducible show Code.wp _ (Code.region 1 _ true) _ _ _); (with_reducible refine wp_more_tailq (id := 1) 16 ?_ ?_ ?_); kernel_rfl; kernel_rfl; (try simp only [List.take_succ_cons, List.take_zero, List.drop_succ_cons, List.drop_zero]); (repeat (any_goals (first | go_big_quiet_step ((first | (go_at_call 47; (with_reducible apply quiet_call); with_reducible exact htame_c _ _ (by omega) (by omega) (by omega) (by omega) _))) | quiet_step ((first | (go_at_call 47; (with_reducible apply quiet_call); with_reducible exact htame_c _ _ (by omega) (by omega) (by omega) (by omega) _)))))); (with_reducible refine wpQuiet_nil ?_); intro r))
  go_returns
  exact ⟨rfl, (by repeat (first | exact More.refl _ | refine More.alloc ?_ _ | refine More.more ?_ _ | refine More.drew ?_ | refine More.drewN ?_ _))⟩

set_option maxHeartbeats 4000000 in
theorem hinv_c (a : Pl) (x y : Int) (hx : -9223372036854775808 ≤ x) (hx' : x ≤ 9223372036854775807) (hy : -9223372036854775808 ≤ y) (hy' : y ≤ 9223372036854775807) (W : World) :
    Calls Try.prog 41 #[plV a, .int .i64 x, .int .i64 y] W fun e w' => e = .returned (plV (hInV a x y)) ∧ More W w' := by
  have t3 := tdiv_bd x 3 hx hx' (by omega)
  have t7 := tdiv_bd x 7 hx hx' (by omega)
  have t5 := tdiv_bd y 5 hy hy' (by omega)
  have t11 := tdiv_bd y 11 hy hy' (by omega)
  go_enter Try.func41, Try.ntmps41
  go_wp2_with (first | (go_at_call 48; (with_reducible refine (hin_c _ _ _ (by omega) (by omega) (by omega) (by omega) _).mono ?_); rintro e w' ⟨rfl, r, rfl⟩) | (go_at_call 48; (with_reducible refine (hin_c ⟨_, _, _⟩ _ _ (by omega) (by omega) (by omega) (by omega) _).mono ?_); rintro e w' ⟨rfl, r, rfl⟩) | ((with_reducible show Code.wp _ (Code.region 1 _ true) _ _ _); (with_reducible refine wp_more_tailq_m (id := 1) 20 ?_ ?_ ?_); kernel_rfl; kernel_rfl; (try simp only [List.take_succ_cons, List.take_zero, List.drop_succ_cons, List.drop_zero]); (repeat (any_goals (first | go_big_quiet_step ((first | (go_at_call 48; (with_reducible apply quiet_call); with_reducible exact hin_c _ _ _ (by omega) (by omega) (by omega) (by omega) _) | (go_at_call 48; (with_reducible apply quiet_call); with_reducible exact hin_c ⟨_, _, _⟩ _ _ (by omega) (by omega) (by omega) (by omega) _))) | quiet_step ((first | (go_at_call 48; (with_reducible apply quiet_call); with_reducible exact hin_c _ _ _ (by omega) (by omega) (by omega) (by omega) _) | (go_at_call 48; (with_reducible apply quiet_call); with_reducible exact hin_c ⟨_, _, _⟩ _ _ (by omega) (by omega) (by omega) (by omega) _)))))); (with_reducible refine wpQuiet_nil ?_); intro r) | ((with_reducible show Code.wp _ (Code.region 1 _ true) _ _ _); (with_reducible refine wp_more_tailq (id := 1) 20 ?_ ?_ ?_); kernel_rfl; kernel_rfl; (try simp only [List.take_succ_cons, List.take_zero, List.drop_succ_cons, List.drop_zero]); (repeat (any_goals (first | go_big_quiet_step ((first | (go_at_call 48; (with_reducible apply quiet_call); with_reducible exact hin_c _ _ _ (by omega) (by omega) (by omega) (by omega) _) | (go_at_call 48; (with_reducible apply quiet_call); with_reducible exact hin_c ⟨_, _, _⟩ _ _ (by omega) (by omega) (by omega) (by omega) _))) | quiet_step ((first | (go_at_call 48; (with_reducible apply quiet_call); with_reducible exact hin_c _ _ _ (by omega) (by omega) (by omega) (by omega) _) | (go_at_call 48; (with_reducible apply quiet_call); with_reducible exact hin_c ⟨_, _, _⟩ _ _ (by omega) (by omega) (by omega) (by omega) _)))))); (with_reducible refine wpQuiet_nil ?_); intro r))
  go_returns
  exact ⟨rfl, (by repeat (first | exact More.refl _ | refine More.alloc ?_ _ | refine More.more ?_ _ | refine More.drew ?_ | refine More.drewN ?_ _))⟩

def lessI (a b : Iv) : Bool := !ivRight b || ivInside a b

set_option maxHeartbeats 4000000 in
theorem lin5_c (a b : Iv) (W : World) :
    Calls Try.prog 43 #[ivV a, ivV b] W fun e w' => e = .returned (.bool (lessI a b)) ∧ More W w' := by
  unfold lessI
  cases h0 : ivRight b <;> cases h1 : ivInside a b
  all_goals
    go_enter Try.func43, Try.ntmps43
    go_wp2_with (first | (go_at_call 44; (with_reducible refine (right_c _ _).mono ?_); rintro e w' ⟨rfl, r, rfl⟩) | (go_at_call 44; (with_reducible refine (right_c ⟨_, _, _⟩ _).mono ?_); rintro e w' ⟨rfl, r, rfl⟩) | (go_at_call 56; (with_reducible refine (inside_c _ _ _).mono ?_); rintro e w' ⟨rfl, r, rfl⟩) | (go_at_call 56; (with_reducible refine (inside_c _ ⟨_, _, _⟩ _).mono ?_); rintro e w' ⟨rfl, r, rfl⟩) | (go_at_call 56; (with_reducible refine (inside_c ⟨_, _, _⟩ _ _).mono ?_); rintro e w' ⟨rfl, r, rfl⟩) | (go_at_call 56; (with_reducible refine (inside_c ⟨_, _, _⟩ ⟨_, _, _⟩ _).mono ?_); rintro e w' ⟨rfl, r, rfl⟩))
    go_returns
    exact ⟨rfl, (by repeat (first | exact More.refl _ | refine More.alloc ?_ _ | refine More.more ?_ _ | refine More.drew ?_ | refine More.drewN ?_ _))⟩

def lessP (a b : Pl) : Bool := lessI a.x b.x && lessI a.y b.y && lessI a.z b.z

set_option maxHeartbeats 4000000 in
theorem lin5v_c (a b : Pl) (W : World) :
    Calls Try.prog 42 #[plV a, plV b] W fun e w' => e = .returned (.bool (lessP a b)) ∧ More W w' := by
  unfold lessP
  cases h0 : lessI a.x b.x <;> cases h1 : lessI a.y b.y <;> cases h2 : lessI a.z b.z
  all_goals
    go_enter Try.func42, Try.ntmps42
    go_wp2_with (first | (go_at_call 43; (with_reducible refine (lin5_c _ _ _).mono ?_); rintro e w' ⟨rfl, r, rfl⟩) | (go_at_call 43; (with_reducible refine (lin5_c _ ⟨_, _, _⟩ _).mono ?_); rintro e w' ⟨rfl, r, rfl⟩) | (go_at_call 43; (with_reducible refine (lin5_c ⟨_, _, _⟩ _ _).mono ?_); rintro e w' ⟨rfl, r, rfl⟩) | (go_at_call 43; (with_reducible refine (lin5_c ⟨_, _, _⟩ ⟨_, _, _⟩ _).mono ?_); rintro e w' ⟨rfl, r, rfl⟩))
    go_returns
    exact ⟨rfl, (by repeat (first | exact More.refl _ | refine More.alloc ?_ _ | refine More.more ?_ _ | refine More.drew ?_ | refine More.drewN ?_ _))⟩

set_option maxHeartbeats 4000000 in
theorem known5_c  (W : World) :
    Calls Try.prog 11 #[] W fun e w' => e = .returned (.bool true) ∧ More W w' := by
  have k0 : ivWhole 3 = ⟨196608, 196608, false⟩ := by kernel_rfl
  have k1 : ivWhole 0 = ⟨0, 0, false⟩ := by kernel_rfl
  have k2 : ivWhole 4 = ⟨262144, 262144, false⟩ := by kernel_rfl
  have k3 : plUnit ⟨⟨196608, 196608, false⟩, ⟨0, 0, false⟩, ⟨262144, 262144, false⟩⟩ = ⟨⟨39321, 39322, false⟩, ⟨0, 0, false⟩, ⟨52428, 52429, false⟩⟩ := by kernel_rfl
  have k4 : ivHas ⟨39321, 39322, false⟩ 39321 = true := by kernel_rfl
  have k5 : ivHas ⟨0, 0, false⟩ 0 = true := by kernel_rfl
  have k6 : ivHas ⟨52428, 52429, false⟩ 52428 = true := by kernel_rfl
  go_enter Try.func11, Try.ntmps11
  go_wp2_with (first | (go_at_call 8; (with_reducible refine (vof_c _ _ _ _).mono ?_); rintro e w' ⟨rfl, r, rfl⟩) | (go_at_call 8; (with_reducible refine (vof_c ⟨_, _, _⟩ ⟨_, _, _⟩ ⟨_, _, _⟩ _).mono ?_); rintro e w' ⟨rfl, r, rfl⟩) | (go_at_call 9; (with_reducible refine (whole_c _ _).mono ?_); rintro e w' ⟨rfl, r, rfl⟩) | (go_at_call 24; (with_reducible refine (vunit_c _ _).mono ?_); rintro e w' ⟨rfl, r, rfl⟩) | (go_at_call 24; (with_reducible refine (vunit_c ⟨_, _, _⟩ _).mono ?_); rintro e w' ⟨rfl, r, rfl⟩) | (go_at_call 24; (with_reducible refine (vunit_c ⟨⟨_, _, _⟩, ⟨_, _, _⟩, ⟨_, _, _⟩⟩ _).mono ?_); rintro e w' ⟨rfl, r, rfl⟩) | (go_at_call 45; (with_reducible refine (has_c _ _ _).mono ?_); rintro e w' ⟨rfl, r, rfl⟩) | (go_at_call 45; (with_reducible refine (has_c ⟨_, _, _⟩ _ _).mono ?_); rintro e w' ⟨rfl, r, rfl⟩))
  go_returns
  exact ⟨rfl, (by repeat (first | exact More.refl _ | refine More.alloc ?_ _ | refine More.more ?_ _ | refine More.drew ?_ | refine More.drewN ?_ _))⟩

end Go.Proofs.Ytgpmalenidonfaa

