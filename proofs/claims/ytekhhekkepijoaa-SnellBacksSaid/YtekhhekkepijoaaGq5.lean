/-
  Places of raw numbers, of small ones, and such as lie in others; chapter 5's example.
  Places and ways in plain numbers: less in less; turned and mirrored; units; what is on a way.
  The contracts of the plain saying of chapter 5.
-/
import Derived.Test.YtekhhekkepijoaaVec
import Derived.Test.YtekhhekkepijoaaGb
import Derived.Test.YtekhhekkepijoaaRefIv2

namespace Go.Proofs.Ytekhhekkepijoaa
set_option linter.unusedVariables false
open Go.ChangeShapes Go.WideShapes Go.ChangeAt Go.RowKit

structure Six where
  a : Int
  b : Int
  c : Int
  d : Int
  e : Int
  f : Int

@[reducible] def sixV (s : Six) : Value := .agg #[.int .i64 s.a, .int .i64 s.b, .int .i64 s.c, .int .i64 s.d, .int .i64 s.e, .int .i64 s.f]

@[reducible] def In64 (n : Int) : Prop := -9223372036854775808 ≤ n ∧ n ≤ 9223372036854775807
def OkSix (s : Six) : Prop := In64 s.a ∧ In64 s.b ∧ In64 s.c ∧ In64 s.d ∧ In64 s.e ∧ In64 s.f

def hPl (s : Six) : Pl := ⟨hIv s.a s.b, hIv s.c s.d, hIv s.e s.f⟩
def hInV (a : Pl) (x y : Int) : Pl := ⟨hIn a.x x y, hIn a.y (x.tdiv 3) (y.tdiv 5), hIn a.z (x.tdiv 7) (y.tdiv 11)⟩

set_option maxHeartbeats 4000000 in
theorem hv_c (s : Six) (h : OkSix s) (W : World) :
    Calls Try.prog 19 #[sixV s] W fun e w' => e = .returned (plV (hPl s)) ∧ More W w' := by
  obtain ⟨⟨b0, c0⟩, ⟨b1, c1⟩, ⟨b2, c2⟩, ⟨b3, c3⟩, ⟨b4, c4⟩, b5, c5⟩ := h
  go_enter Try.func19, Try.ntmps19
  go_wp2_with (first | (go_at_call 20; (with_reducible refine (hiv_c _ _ (by omega) (by omega) (by omega) (by omega) _).mono ?_); rintro e w' ⟨rfl, r, rfl⟩) | ((with_reducible show Code.wp _ (Code.region 1 _ true) _ _ _); (with_reducible refine wp_more_tailq_m (id := 1) 16 ?_ ?_ ?_); kernel_rfl; kernel_rfl; (try simp only [List.take_succ_cons, List.take_zero, List.drop_succ_cons, List.drop_zero]); (repeat (any_goals (first | go_big_quiet_step ((first | (go_at_call 20; (with_reducible apply quiet_call); with_reducible exact hiv_c _ _ (by omega) (by omega) (by omega) (by omega) _))) | quiet_step ((first | (go_at_call 20; (with_reducible apply quiet_call); with_reducible exact hiv_c _ _ (by omega) (by omega) (by omega) (by omega) _)))))); (with_reducible refine wpQuiet_nil ?_); intro r) | ((with_reducible show Code.wp _ (Code.region 1 _ true) _ _ _); (with_reducible refine wp_more_tailq (id := 1) 16 ?_ ?_ ?_); kernel_rfl; kernel_rfl; (try simp only [List.take_succ_cons, List.take_zero, List.drop_succ_cons, List.drop_zero]); (repeat (any_goals (first | go_big_quiet_step ((first | (go_at_call 20; (with_reducible apply quiet_call); with_reducible exact hiv_c _ _ (by omega) (by omega) (by omega) (by omega) _))) | quiet_step ((first | (go_at_call 20; (with_reducible apply quiet_call); with_reducible exact hiv_c _ _ (by omega) (by omega) (by omega) (by omega) _)))))); (with_reducible refine wpQuiet_nil ?_); intro r))
  go_returns
  exact ⟨rfl, (by repeat (first | exact More.refl _ | refine More.alloc ?_ _ | refine More.more ?_ _ | refine More.drew ?_ | refine More.drewN ?_ _))⟩

set_option maxHeartbeats 4000000 in
theorem hinv_c (a : Pl) (x y : Int) (hx : -9223372036854775808 ≤ x) (hx' : x ≤ 9223372036854775807) (hy : -9223372036854775808 ≤ y) (hy' : y ≤ 9223372036854775807) (W : World) :
    Calls Try.prog 24 #[plV a, .int .i64 x, .int .i64 y] W fun e w' => e = .returned (plV (hInV a x y)) ∧ More W w' := by
  have t3 := tdiv_bd x 3 hx hx' (by omega)
  have t7 := tdiv_bd x 7 hx hx' (by omega)
  have t5 := tdiv_bd y 5 hy hy' (by omega)
  have t11 := tdiv_bd y 11 hy hy' (by omega)
  go_enter Try.func24, Try.ntmps24
  go_wp2_with (first | (go_at_call 25; (with_reducible refine (hin_c _ _ _ (by omega) (by omega) (by omega) (by omega) _).mono ?_); rintro e w' ⟨rfl, r, rfl⟩) | (go_at_call 25; (with_reducible refine (hin_c ⟨_, _, _⟩ _ _ (by omega) (by omega) (by omega) (by omega) _).mono ?_); rintro e w' ⟨rfl, r, rfl⟩) | ((with_reducible show Code.wp _ (Code.region 1 _ true) _ _ _); (with_reducible refine wp_more_tailq_m (id := 1) 20 ?_ ?_ ?_); kernel_rfl; kernel_rfl; (try simp only [List.take_succ_cons, List.take_zero, List.drop_succ_cons, List.drop_zero]); (repeat (any_goals (first | go_big_quiet_step ((first | (go_at_call 25; (with_reducible apply quiet_call); with_reducible exact hin_c _ _ _ (by omega) (by omega) (by omega) (by omega) _) | (go_at_call 25; (with_reducible apply quiet_call); with_reducible exact hin_c ⟨_, _, _⟩ _ _ (by omega) (by omega) (by omega) (by omega) _))) | quiet_step ((first | (go_at_call 25; (with_reducible apply quiet_call); with_reducible exact hin_c _ _ _ (by omega) (by omega) (by omega) (by omega) _) | (go_at_call 25; (with_reducible apply quiet_call); with_reducible exact hin_c ⟨_, _, _⟩ _ _ (by omega) (by omega) (by omega) (by omega) _)))))); (with_reducible refine wpQuiet_nil ?_); intro r) | ((with_reducible show Code.wp _ (Code.region 1 _ true) _ _ _); (with_reducible refine wp_more_tailq (id := 1) 20 ?_ ?_ ?_); kernel_rfl; kernel_rfl; (try simp only [List.take_succ_cons, List.take_zero, List.drop_succ_cons, List.drop_zero]); (repeat (any_goals (first | go_big_quiet_step ((first | (go_at_call 25; (with_reducible apply quiet_call); with_reducible exact hin_c _ _ _ (by omega) (by omega) (by omega) (by omega) _) | (go_at_call 25; (with_reducible apply quiet_call); with_reducible exact hin_c ⟨_, _, _⟩ _ _ (by omega) (by omega) (by omega) (by omega) _))) | quiet_step ((first | (go_at_call 25; (with_reducible apply quiet_call); with_reducible exact hin_c _ _ _ (by omega) (by omega) (by omega) (by omega) _) | (go_at_call 25; (with_reducible apply quiet_call); with_reducible exact hin_c ⟨_, _, _⟩ _ _ (by omega) (by omega) (by omega) (by omega) _)))))); (with_reducible refine wpQuiet_nil ?_); intro r))
  go_returns
  exact ⟨rfl, (by repeat (first | exact More.refl _ | refine More.alloc ?_ _ | refine More.more ?_ _ | refine More.drew ?_ | refine More.drewN ?_ _))⟩

end Go.Proofs.Ytekhhekkepijoaa

namespace Go.Proofs.Ytekhhekkepijoaa
set_option linter.unusedVariables false

def PRight (a : Pl) : Prop := ivRight a.x = true ∧ ivRight a.y = true ∧ ivRight a.z = true
def PPart (p a : Pl) : Prop := Part p.x a.x ∧ Part p.y a.y ∧ Part p.z a.z
theorem plRight_iff {a : Pl} : plRight a = true ↔ PRight a := by
  unfold plRight PRight
  simp only [Bool.and_eq_true, and_assoc]
theorem hInV_part {a : Pl} (h : PRight a) (x y : Int) : PPart (hInV a x y) a := ⟨hIn_part _ _ h.1, hIn_part _ _ h.2.1, hIn_part _ _ h.2.2⟩

/-! Less in less. -/
theorem less_sum {a b c p q r : Iv} (h : ivLess a p = true) (k : ivLess b q = true) (l : ivLess c r = true) : ivLess (plSum a b c) (plSum p q r) = true := lessAdd (lessAdd h k) l
theorem less_dot {u v x y : Pl} (h : PPart u x) (k : PPart v y) : ivLess (plDot u v) (plDot x y) = true := less_sum (less_mul h.1 k.1) (less_mul h.2.1 k.2.1) (less_mul h.2.2 k.2.2)
/-! Turned, and mirrored. -/
theorem sum_swap (a b c : Iv) : plSum b a c = plSum a b c := by unfold plSum; rw [add_comm' b a]
theorem turn_of {a : Pl} {k m : Int} (h : k % 4 = m) : plTurn a k = if m = 0 then a else if m = 1 then plOne a else if m = 2 then plOne (plOne a) else plOne (plOne (plOne a)) := by
  unfold plTurn
  rw [h]
/-! On a way. -/
/-! Units. -/
theorem sum_right {a b c : Iv} (h : ivRight (plSum a b c) = true) : (ivRight a = true ∧ ivRight b = true ∧ ivRight c = true) ∧ plSum a b c = ⟨a.lo + b.lo + c.lo, a.hi + b.hi + c.hi, false⟩ := by
  have h1 := rights_add h
  have h2 := rights_add h1.1
  refine ⟨⟨h2.1, h2.2, h1.2⟩, ?_⟩
  have e : ivAdd a b = ⟨a.lo + b.lo, a.hi + b.hi, false⟩ := by
    have h3 := h1.1
    unfold ivAdd at h3 ⊢
    rw [if_pos (both_iff.2 h2)] at h3 ⊢
    exact of_yes (right_of_of.1 h3)
  unfold plSum at h ⊢
  rw [e] at h h1 ⊢
  unfold ivAdd at h ⊢
  rw [if_pos (both_iff.2 h1)] at h ⊢
  exact of_yes (right_of_of.1 h)
/-! Pythagorean ways. -/
end Go.Proofs.Ytekhhekkepijoaa

namespace Go.Proofs.Ytekhhekkepijoaa
set_option linter.unusedVariables false
open Go.ChangeShapes Go.WideShapes Go.ChangeAt Go.RowKit

set_option maxHeartbeats 4000000 in
theorem rvright_c (a : Pl) (W : World) :
    Calls Try.prog 55 #[plV a] W fun e w' => e = .returned (.bool (plRight a)) ∧ More W w' := by
  unfold plRight
  cases h0 : ivRight a.x <;> cases h1 : ivRight a.y <;> cases h2 : ivRight a.z
  all_goals
    go_enter Try.func55, Try.ntmps55
    go_wp2_with (first | (go_at_call 47; (with_reducible refine (rright_c _ _).mono ?_); rintro e w' ⟨rfl, r, rfl⟩) | (go_at_call 47; (with_reducible refine (rright_c ⟨_, _, _⟩ _).mono ?_); rintro e w' ⟨rfl, r, rfl⟩))
    go_returns
    exact ⟨rfl, (by repeat (first | exact More.refl _ | refine More.alloc ?_ _ | refine More.more ?_ _ | refine More.drew ?_ | refine More.drewN ?_ _))⟩

set_option maxHeartbeats 4000000 in
theorem rvadd_c (a b : Pl) (W : World) :
    Calls Try.prog 52 #[plV a, plV b] W fun e w' => e = .returned (plV (plAdd a b)) ∧ More W w' := by
  go_enter Try.func52, Try.ntmps52
  go_wp2_with (first | (go_at_call 69; (with_reducible refine (radd_c _ _ _).mono ?_); rintro e w' ⟨rfl, r, rfl⟩) | (go_at_call 69; (with_reducible refine (radd_c _ ⟨_, _, _⟩ _).mono ?_); rintro e w' ⟨rfl, r, rfl⟩) | (go_at_call 69; (with_reducible refine (radd_c ⟨_, _, _⟩ _ _).mono ?_); rintro e w' ⟨rfl, r, rfl⟩) | (go_at_call 69; (with_reducible refine (radd_c ⟨_, _, _⟩ ⟨_, _, _⟩ _).mono ?_); rintro e w' ⟨rfl, r, rfl⟩) | ((with_reducible show Code.wp _ (Code.region 1 _ true) _ _ _); (with_reducible refine wp_more_tailq_m (id := 1) 16 ?_ ?_ ?_); kernel_rfl; kernel_rfl; (try simp only [List.take_succ_cons, List.take_zero, List.drop_succ_cons, List.drop_zero]); (repeat (any_goals (first | go_big_quiet_step ((first | (go_at_call 69; (with_reducible apply quiet_call); with_reducible exact radd_c _ _ _) | (go_at_call 69; (with_reducible apply quiet_call); with_reducible exact radd_c _ ⟨_, _, _⟩ _) | (go_at_call 69; (with_reducible apply quiet_call); with_reducible exact radd_c ⟨_, _, _⟩ _ _) | (go_at_call 69; (with_reducible apply quiet_call); with_reducible exact radd_c ⟨_, _, _⟩ ⟨_, _, _⟩ _))) | quiet_step ((first | (go_at_call 69; (with_reducible apply quiet_call); with_reducible exact radd_c _ _ _) | (go_at_call 69; (with_reducible apply quiet_call); with_reducible exact radd_c _ ⟨_, _, _⟩ _) | (go_at_call 69; (with_reducible apply quiet_call); with_reducible exact radd_c ⟨_, _, _⟩ _ _) | (go_at_call 69; (with_reducible apply quiet_call); with_reducible exact radd_c ⟨_, _, _⟩ ⟨_, _, _⟩ _)))))); (with_reducible refine wpQuiet_nil ?_); intro r) | ((with_reducible show Code.wp _ (Code.region 1 _ true) _ _ _); (with_reducible refine wp_more_tailq (id := 1) 16 ?_ ?_ ?_); kernel_rfl; kernel_rfl; (try simp only [List.take_succ_cons, List.take_zero, List.drop_succ_cons, List.drop_zero]); (repeat (any_goals (first | go_big_quiet_step ((first | (go_at_call 69; (with_reducible apply quiet_call); with_reducible exact radd_c _ _ _) | (go_at_call 69; (with_reducible apply quiet_call); with_reducible exact radd_c _ ⟨_, _, _⟩ _) | (go_at_call 69; (with_reducible apply quiet_call); with_reducible exact radd_c ⟨_, _, _⟩ _ _) | (go_at_call 69; (with_reducible apply quiet_call); with_reducible exact radd_c ⟨_, _, _⟩ ⟨_, _, _⟩ _))) | quiet_step ((first | (go_at_call 69; (with_reducible apply quiet_call); with_reducible exact radd_c _ _ _) | (go_at_call 69; (with_reducible apply quiet_call); with_reducible exact radd_c _ ⟨_, _, _⟩ _) | (go_at_call 69; (with_reducible apply quiet_call); with_reducible exact radd_c ⟨_, _, _⟩ _ _) | (go_at_call 69; (with_reducible apply quiet_call); with_reducible exact radd_c ⟨_, _, _⟩ ⟨_, _, _⟩ _)))))); (with_reducible refine wpQuiet_nil ?_); intro r))
  go_returns
  exact ⟨rfl, (by repeat (first | exact More.refl _ | refine More.alloc ?_ _ | refine More.more ?_ _ | refine More.drew ?_ | refine More.drewN ?_ _))⟩

set_option maxHeartbeats 4000000 in
theorem rvscale_c (a : Pl) (k : Iv) (W : World) :
    Calls Try.prog 53 #[plV a, ivV k] W fun e w' => e = .returned (plV (plScale a k)) ∧ More W w' := by
  go_enter Try.func53, Try.ntmps53
  go_wp2_with (first | (go_at_call 50; (with_reducible refine (rmuliv_c _ _ _).mono ?_); rintro e w' ⟨rfl, r, rfl⟩) | (go_at_call 50; (with_reducible refine (rmuliv_c _ ⟨_, _, _⟩ _).mono ?_); rintro e w' ⟨rfl, r, rfl⟩) | (go_at_call 50; (with_reducible refine (rmuliv_c ⟨_, _, _⟩ _ _).mono ?_); rintro e w' ⟨rfl, r, rfl⟩) | (go_at_call 50; (with_reducible refine (rmuliv_c ⟨_, _, _⟩ ⟨_, _, _⟩ _).mono ?_); rintro e w' ⟨rfl, r, rfl⟩) | ((with_reducible show Code.wp _ (Code.region 1 _ true) _ _ _); (with_reducible refine wp_more_tailq_m (id := 1) 13 ?_ ?_ ?_); kernel_rfl; kernel_rfl; (try simp only [List.take_succ_cons, List.take_zero, List.drop_succ_cons, List.drop_zero]); (repeat (any_goals (first | go_big_quiet_step ((first | (go_at_call 50; (with_reducible apply quiet_call); with_reducible exact rmuliv_c _ _ _) | (go_at_call 50; (with_reducible apply quiet_call); with_reducible exact rmuliv_c _ ⟨_, _, _⟩ _) | (go_at_call 50; (with_reducible apply quiet_call); with_reducible exact rmuliv_c ⟨_, _, _⟩ _ _) | (go_at_call 50; (with_reducible apply quiet_call); with_reducible exact rmuliv_c ⟨_, _, _⟩ ⟨_, _, _⟩ _))) | quiet_step ((first | (go_at_call 50; (with_reducible apply quiet_call); with_reducible exact rmuliv_c _ _ _) | (go_at_call 50; (with_reducible apply quiet_call); with_reducible exact rmuliv_c _ ⟨_, _, _⟩ _) | (go_at_call 50; (with_reducible apply quiet_call); with_reducible exact rmuliv_c ⟨_, _, _⟩ _ _) | (go_at_call 50; (with_reducible apply quiet_call); with_reducible exact rmuliv_c ⟨_, _, _⟩ ⟨_, _, _⟩ _)))))); (with_reducible refine wpQuiet_nil ?_); intro r) | ((with_reducible show Code.wp _ (Code.region 1 _ true) _ _ _); (with_reducible refine wp_more_tailq (id := 1) 13 ?_ ?_ ?_); kernel_rfl; kernel_rfl; (try simp only [List.take_succ_cons, List.take_zero, List.drop_succ_cons, List.drop_zero]); (repeat (any_goals (first | go_big_quiet_step ((first | (go_at_call 50; (with_reducible apply quiet_call); with_reducible exact rmuliv_c _ _ _) | (go_at_call 50; (with_reducible apply quiet_call); with_reducible exact rmuliv_c _ ⟨_, _, _⟩ _) | (go_at_call 50; (with_reducible apply quiet_call); with_reducible exact rmuliv_c ⟨_, _, _⟩ _ _) | (go_at_call 50; (with_reducible apply quiet_call); with_reducible exact rmuliv_c ⟨_, _, _⟩ ⟨_, _, _⟩ _))) | quiet_step ((first | (go_at_call 50; (with_reducible apply quiet_call); with_reducible exact rmuliv_c _ _ _) | (go_at_call 50; (with_reducible apply quiet_call); with_reducible exact rmuliv_c _ ⟨_, _, _⟩ _) | (go_at_call 50; (with_reducible apply quiet_call); with_reducible exact rmuliv_c ⟨_, _, _⟩ _ _) | (go_at_call 50; (with_reducible apply quiet_call); with_reducible exact rmuliv_c ⟨_, _, _⟩ ⟨_, _, _⟩ _)))))); (with_reducible refine wpQuiet_nil ?_); intro r))
  go_returns
  exact ⟨rfl, (by repeat (first | exact More.refl _ | refine More.alloc ?_ _ | refine More.more ?_ _ | refine More.drew ?_ | refine More.drewN ?_ _))⟩

set_option maxHeartbeats 4000000 in
theorem rvdot_c (a b : Pl) (W : World) :
    Calls Try.prog 46 #[plV a, plV b] W fun e w' => e = .returned (ivV (plDot a b)) ∧ More W w' := by
  go_enter Try.func46, Try.ntmps46
  go_wp2_with (first | (go_at_call 50; (with_reducible refine (rmuliv_c _ _ _).mono ?_); rintro e w' ⟨rfl, r, rfl⟩) | (go_at_call 50; (with_reducible refine (rmuliv_c _ ⟨_, _, _⟩ _).mono ?_); rintro e w' ⟨rfl, r, rfl⟩) | (go_at_call 50; (with_reducible refine (rmuliv_c ⟨_, _, _⟩ _ _).mono ?_); rintro e w' ⟨rfl, r, rfl⟩) | (go_at_call 50; (with_reducible refine (rmuliv_c ⟨_, _, _⟩ ⟨_, _, _⟩ _).mono ?_); rintro e w' ⟨rfl, r, rfl⟩) | (go_at_call 69; (with_reducible refine (radd_c _ _ _).mono ?_); rintro e w' ⟨rfl, r, rfl⟩) | (go_at_call 69; (with_reducible refine (radd_c _ ⟨_, _, _⟩ _).mono ?_); rintro e w' ⟨rfl, r, rfl⟩) | (go_at_call 69; (with_reducible refine (radd_c ⟨_, _, _⟩ _ _).mono ?_); rintro e w' ⟨rfl, r, rfl⟩) | (go_at_call 69; (with_reducible refine (radd_c ⟨_, _, _⟩ ⟨_, _, _⟩ _).mono ?_); rintro e w' ⟨rfl, r, rfl⟩) | ((with_reducible show Code.wp _ (Code.region 1 _ true) _ _ _); (with_reducible refine wp_more_tailq_m (id := 1) 17 ?_ ?_ ?_); kernel_rfl; kernel_rfl; (try simp only [List.take_succ_cons, List.take_zero, List.drop_succ_cons, List.drop_zero]); (repeat (any_goals (first | go_big_quiet_step ((first | (go_at_call 50; (with_reducible apply quiet_call); with_reducible exact rmuliv_c _ _ _) | (go_at_call 50; (with_reducible apply quiet_call); with_reducible exact rmuliv_c _ ⟨_, _, _⟩ _) | (go_at_call 50; (with_reducible apply quiet_call); with_reducible exact rmuliv_c ⟨_, _, _⟩ _ _) | (go_at_call 50; (with_reducible apply quiet_call); with_reducible exact rmuliv_c ⟨_, _, _⟩ ⟨_, _, _⟩ _) | (go_at_call 69; (with_reducible apply quiet_call); with_reducible exact radd_c _ _ _) | (go_at_call 69; (with_reducible apply quiet_call); with_reducible exact radd_c _ ⟨_, _, _⟩ _) | (go_at_call 69; (with_reducible apply quiet_call); with_reducible exact radd_c ⟨_, _, _⟩ _ _) | (go_at_call 69; (with_reducible apply quiet_call); with_reducible exact radd_c ⟨_, _, _⟩ ⟨_, _, _⟩ _))) | quiet_step ((first | (go_at_call 50; (with_reducible apply quiet_call); with_reducible exact rmuliv_c _ _ _) | (go_at_call 50; (with_reducible apply quiet_call); with_reducible exact rmuliv_c _ ⟨_, _, _⟩ _) | (go_at_call 50; (with_reducible apply quiet_call); with_reducible exact rmuliv_c ⟨_, _, _⟩ _ _) | (go_at_call 50; (with_reducible apply quiet_call); with_reducible exact rmuliv_c ⟨_, _, _⟩ ⟨_, _, _⟩ _) | (go_at_call 69; (with_reducible apply quiet_call); with_reducible exact radd_c _ _ _) | (go_at_call 69; (with_reducible apply quiet_call); with_reducible exact radd_c _ ⟨_, _, _⟩ _) | (go_at_call 69; (with_reducible apply quiet_call); with_reducible exact radd_c ⟨_, _, _⟩ _ _) | (go_at_call 69; (with_reducible apply quiet_call); with_reducible exact radd_c ⟨_, _, _⟩ ⟨_, _, _⟩ _)))))); (with_reducible refine wpQuiet_nil ?_); intro r) | ((with_reducible show Code.wp _ (Code.region 1 _ true) _ _ _); (with_reducible refine wp_more_tailq (id := 1) 17 ?_ ?_ ?_); kernel_rfl; kernel_rfl; (try simp only [List.take_succ_cons, List.take_zero, List.drop_succ_cons, List.drop_zero]); (repeat (any_goals (first | go_big_quiet_step ((first | (go_at_call 50; (with_reducible apply quiet_call); with_reducible exact rmuliv_c _ _ _) | (go_at_call 50; (with_reducible apply quiet_call); with_reducible exact rmuliv_c _ ⟨_, _, _⟩ _) | (go_at_call 50; (with_reducible apply quiet_call); with_reducible exact rmuliv_c ⟨_, _, _⟩ _ _) | (go_at_call 50; (with_reducible apply quiet_call); with_reducible exact rmuliv_c ⟨_, _, _⟩ ⟨_, _, _⟩ _) | (go_at_call 69; (with_reducible apply quiet_call); with_reducible exact radd_c _ _ _) | (go_at_call 69; (with_reducible apply quiet_call); with_reducible exact radd_c _ ⟨_, _, _⟩ _) | (go_at_call 69; (with_reducible apply quiet_call); with_reducible exact radd_c ⟨_, _, _⟩ _ _) | (go_at_call 69; (with_reducible apply quiet_call); with_reducible exact radd_c ⟨_, _, _⟩ ⟨_, _, _⟩ _))) | quiet_step ((first | (go_at_call 50; (with_reducible apply quiet_call); with_reducible exact rmuliv_c _ _ _) | (go_at_call 50; (with_reducible apply quiet_call); with_reducible exact rmuliv_c _ ⟨_, _, _⟩ _) | (go_at_call 50; (with_reducible apply quiet_call); with_reducible exact rmuliv_c ⟨_, _, _⟩ _ _) | (go_at_call 50; (with_reducible apply quiet_call); with_reducible exact rmuliv_c ⟨_, _, _⟩ ⟨_, _, _⟩ _) | (go_at_call 69; (with_reducible apply quiet_call); with_reducible exact radd_c _ _ _) | (go_at_call 69; (with_reducible apply quiet_call); with_reducible exact radd_c _ ⟨_, _, _⟩ _) | (go_at_call 69; (with_reducible apply quiet_call); with_reducible exact radd_c ⟨_, _, _⟩ _ _) | (go_at_call 69; (with_reducible apply quiet_call); with_reducible exact radd_c ⟨_, _, _⟩ ⟨_, _, _⟩ _)))))); (with_reducible refine wpQuiet_nil ?_); intro r))
  go_returns
  exact ⟨rfl, (by repeat (first | exact More.refl _ | refine More.alloc ?_ _ | refine More.more ?_ _ | refine More.drew ?_ | refine More.drewN ?_ _))⟩

end Go.Proofs.Ytekhhekkepijoaa
