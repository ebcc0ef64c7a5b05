/-
  Places and ways: boxes of three intervals, and rays, by value; the contracts of package vec.
-/
import Derived.Test.YtggohceeeggnmaaIvDiv
import Derived.Test.YtggohceeeggnmaaGc
import Derived.Laws.Bits64b
namespace Go.Proofs.Ytggohceeeggnmaa
set_option linter.unusedVariables false
open Go.ChangeShapes Go.WideShapes Go.ChangeAt Go.RowKit

structure Pl where
  x : Iv
  y : Iv
  z : Iv

structure Wy where
  o : Pl
  d : Pl

@[reducible] def plV (a : Pl) : Value :=
  .agg #[.int .i64 a.x.lo, .int .i64 a.x.hi, .bool a.x.no, .int .i64 a.y.lo, .int .i64 a.y.hi, .bool a.y.no, .int .i64 a.z.lo, .int .i64 a.z.hi, .bool a.z.no]

@[reducible] def wyV (r : Wy) : Value :=
  .agg #[.int .i64 r.o.x.lo, .int .i64 r.o.x.hi, .bool r.o.x.no, .int .i64 r.o.y.lo, .int .i64 r.o.y.hi, .bool r.o.y.no, .int .i64 r.o.z.lo, .int .i64 r.o.z.hi, .bool r.o.z.no,
    .int .i64 r.d.x.lo, .int .i64 r.d.x.hi, .bool r.d.x.no, .int .i64 r.d.y.lo, .int .i64 r.d.y.hi, .bool r.d.y.no, .int .i64 r.d.z.lo, .int .i64 r.d.z.hi, .bool r.d.z.no]

def plRight (a : Pl) : Bool := ivRight a.x && ivRight a.y && ivRight a.z
def plSum (x y z : Iv) : Iv := ivAdd (ivAdd x y) z
def plLen2 (a : Pl) : Iv := plSum (ivSqr a.x) (ivSqr a.y) (ivSqr a.z)
def plBy (a : Pl) (k : Iv) : Pl := ⟨ivDiv a.x k, ivDiv a.y k, ivDiv a.z k⟩
def plUnit (a : Pl) : Pl := plBy a (ivRoot (plLen2 a))
def plInside (a b : Pl) : Bool := ivInside a.x b.x && ivInside a.y b.y && ivInside a.z b.z
def plOne (a : Pl) : Pl := ⟨ivNeg a.y, a.x, a.z⟩
def plTurn (a : Pl) (k : Int) : Pl := if k % 4 = 0 then a else if k % 4 = 1 then plOne a else if k % 4 = 2 then plOne (plOne a) else plOne (plOne (plOne a))
def plMirror (a : Pl) : Pl := ⟨a.x, ivNeg a.y, a.z⟩

/-- A part of a box by value. -/
@[go_sem] theorem run_pl_x (a : Pl) (w : World) : (Instr.field 30 (plV a) 0).run Try.prog w = .ok (ivV a.x) w := by kernel_rfl
@[go_sem] theorem run_pl_y (a : Pl) (w : World) : (Instr.field 30 (plV a) 1).run Try.prog w = .ok (ivV a.y) w := by kernel_rfl
@[go_sem] theorem run_pl_z (a : Pl) (w : World) : (Instr.field 30 (plV a) 2).run Try.prog w = .ok (ivV a.z) w := by kernel_rfl

/-- The two lowest bits, below 0 too. -/
theorem bits_and3 (n : Int) : Go.bits .and .i64 n 3 = n % 4 := by
  have e : (BitVec.ofInt 64 n &&& BitVec.ofInt 64 3).toNat = (n % 4).toNat := by
    rw [BitVec.toNat_and, BitVec.toNat_ofInt, show (BitVec.ofInt 64 3).toNat = 2 ^ 2 - 1 by decide, Nat.and_two_pow_sub_one_eq_mod]
    have h : ((n % ((2 ^ 64 : Nat) : Int)).toNat : Int) = n % 18446744073709551616 := by
      rw [Int.toNat_of_nonneg (Int.emod_nonneg _ (by decide))]; rfl
    omega
  show IntKind.i64.wrap ((BitVec.ofInt 64 n &&& BitVec.ofInt 64 3).toNat : Int) = _
  rw [e, IntKind.wrap_i64]
  omega

set_option maxHeartbeats 4000000 in
theorem vof_c (x y z : Iv) (W : World) :
    Calls Try.prog 13 #[ivV x, ivV y, ivV z] W fun e w' => e = .returned (plV ⟨x, y, z⟩) ∧ More W w' := by
  go_enter Try.func13, Try.ntmps13
  go_wp2_with fail
  go_returns
  exact ⟨rfl, (by repeat (first | exact More.refl _ | refine More.alloc ?_ _ | refine More.more ?_ _ | refine More.drew ?_ | refine More.drewN ?_ _))⟩

set_option maxHeartbeats 4000000 in
theorem vright_c (a : Pl) (W : World) :
    Calls Try.prog 24 #[plV a] W fun e w' => e = .returned (.bool (plRight a)) ∧ More W w' := by
  unfold plRight
  cases h0 : ivRight a.x <;> cases h1 : ivRight a.y <;> cases h2 : ivRight a.z
  all_goals
    go_enter Try.func24, Try.ntmps24
    go_wp2_with (first | (go_at_call 18; (with_reducible refine (right_c _ _).mono ?_); rintro e w' ⟨rfl, r, rfl⟩) | (go_at_call 18; (with_reducible refine (right_c ⟨_, _, _⟩ _).mono ?_); rintro e w' ⟨rfl, r, rfl⟩))
    go_returns
    exact ⟨rfl, (by repeat (first | exact More.refl _ | refine More.alloc ?_ _ | refine More.more ?_ _ | refine More.drew ?_ | refine More.drewN ?_ _))⟩

set_option maxHeartbeats 4000000 in
theorem vsum_c (x y z : Iv) (W : World) :
    Calls Try.prog 61 #[ivV x, ivV y, ivV z] W fun e w' => e = .returned (ivV (plSum x y z)) ∧ More W w' := by
  go_enter Try.func61, Try.ntmps61
  go_wp2_with (first | (go_at_call 73; (with_reducible refine (add_c _ _ _).mono ?_); rintro e w' ⟨rfl, r, rfl⟩) | (go_at_call 73; (with_reducible refine (add_c _ ⟨_, _, _⟩ _).mono ?_); rintro e w' ⟨rfl, r, rfl⟩) | (go_at_call 73; (with_reducible refine (add_c ⟨_, _, _⟩ _ _).mono ?_); rintro e w' ⟨rfl, r, rfl⟩) | (go_at_call 73; (with_reducible refine (add_c ⟨_, _, _⟩ ⟨_, _, _⟩ _).mono ?_); rintro e w' ⟨rfl, r, rfl⟩) | ((with_reducible show Code.wp _ (Code.region 1 _ true) _ _ _); (with_reducible refine wp_more_tailq_m (id := 1) 5 ?_ ?_ ?_); kernel_rfl; kernel_rfl; (try simp only [List.take_succ_cons, List.take_zero, List.drop_succ_cons, List.drop_zero]); (repeat (any_goals (first | go_big_quiet_step ((first | (go_at_call 73; (with_reducible apply quiet_call); with_reducible exact add_c _ _ _) | (go_at_call 73; (with_reducible apply quiet_call); with_reducible exact add_c _ ⟨_, _, _⟩ _) | (go_at_call 73; (with_reducible apply quiet_call); with_reducible exact add_c ⟨_, _, _⟩ _ _) | (go_at_call 73; (with_reducible apply quiet_call); with_reducible exact add_c ⟨_, _, _⟩ ⟨_, _, _⟩ _))) | quiet_step ((first | (go_at_call 73; (with_reducible apply quiet_call); with_reducible exact add_c _ _ _) | (go_at_call 73; (with_reducible apply quiet_call); with_reducible exact add_c _ ⟨_, _, _⟩ _) | (go_at_call 73; (with_reducible apply quiet_call); with_reducible exact add_c ⟨_, _, _⟩ _ _) | (go_at_call 73; (with_reducible apply quiet_call); with_reducible exact add_c ⟨_, _, _⟩ ⟨_, _, _⟩ _)))))); (with_reducible refine wpQuiet_nil ?_); intro r) | ((with_reducible show Code.wp _ (Code.region 1 _ true) _ _ _); (with_reducible refine wp_more_tailq (id := 1) 5 ?_ ?_ ?_); kernel_rfl; kernel_rfl; (try simp only [List.take_succ_cons, List.take_zero, List.drop_succ_cons, List.drop_zero]); (repeat (any_goals (first | go_big_quiet_step ((first | (go_at_call 73; (with_reducible apply quiet_call); with_reducible exact add_c _ _ _) | (go_at_call 73; (with_reducible apply quiet_call); with_reducible exact add_c _ ⟨_, _, _⟩ _) | (go_at_call 73; (with_reducible apply quiet_call); with_reducible exact add_c ⟨_, _, _⟩ _ _) | (go_at_call 73; (with_reducible apply quiet_call); with_reducible exact add_c ⟨_, _, _⟩ ⟨_, _, _⟩ _))) | quiet_step ((first | (go_at_call 73; (with_reducible apply quiet_call); with_reducible exact add_c _ _ _) | (go_at_call 73; (with_reducible apply quiet_call); with_reducible exact add_c _ ⟨_, _, _⟩ _) | (go_at_call 73; (with_reducible apply quiet_call); with_reducible exact add_c ⟨_, _, _⟩ _ _) | (go_at_call 73; (with_reducible apply quiet_call); with_reducible exact add_c ⟨_, _, _⟩ ⟨_, _, _⟩ _)))))); (with_reducible refine wpQuiet_nil ?_); intro r))
  go_returns
  exact ⟨rfl, (by repeat (first | exact More.refl _ | refine More.alloc ?_ _ | refine More.more ?_ _ | refine More.drew ?_ | refine More.drewN ?_ _))⟩

set_option maxHeartbeats 4000000 in
theorem vlen2_c (a : Pl) (W : World) :
    Calls Try.prog 26 #[plV a] W fun e w' => e = .returned (ivV (plLen2 a)) ∧ More W w' := by
  go_enter Try.func26, Try.ntmps26
  go_wp2_with (first | (go_at_call 61; (with_reducible refine (vsum_c _ _ _ _).mono ?_); rintro e w' ⟨rfl, r, rfl⟩) | (go_at_call 61; (with_reducible refine (vsum_c ⟨_, _, _⟩ ⟨_, _, _⟩ ⟨_, _, _⟩ _).mono ?_); rintro e w' ⟨rfl, r, rfl⟩) | (go_at_call 62; (with_reducible refine (sqr_c _ _).mono ?_); rintro e w' ⟨rfl, r, rfl⟩) | (go_at_call 62; (with_reducible refine (sqr_c ⟨_, _, _⟩ _).mono ?_); rintro e w' ⟨rfl, r, rfl⟩) | ((with_reducible show Code.wp _ (Code.region 1 _ true) _ _ _); (with_reducible refine wp_more_tailq_m (id := 1) 10 ?_ ?_ ?_); kernel_rfl; kernel_rfl; (try simp only [List.take_succ_cons, List.take_zero, List.drop_succ_cons, List.drop_zero]); (repeat (any_goals (first | go_big_quiet_step ((first | (go_at_call 61; (with_reducible apply quiet_call); with_reducible exact vsum_c _ _ _ _) | (go_at_call 61; (with_reducible apply quiet_call); with_reducible exact vsum_c ⟨_, _, _⟩ ⟨_, _, _⟩ ⟨_, _, _⟩ _) | (go_at_call 62; (with_reducible apply quiet_call); with_reducible exact sqr_c _ _) | (go_at_call 62; (with_reducible apply quiet_call); with_reducible exact sqr_c ⟨_, _, _⟩ _))) | quiet_step ((first | (go_at_call 61; (with_reducible apply quiet_call); with_reducible exact vsum_c _ _ _ _) | (go_at_call 61; (with_reducible apply quiet_call); with_reducible exact vsum_c ⟨_, _, _⟩ ⟨_, _, _⟩ ⟨_, _, _⟩ _) | (go_at_call 62; (with_reducible apply quiet_call); with_reducible exact sqr_c _ _) | (go_at_call 62; (with_reducible apply quiet_call); with_reducible exact sqr_c ⟨_, _, _⟩ _)))))); (with_reducible refine wpQuiet_nil ?_); intro r) | ((with_reducible show Code.wp _ (Code.region 1 _ true) _ _ _); (with_reducible refine wp_more_tailq (id := 1) 10 ?_ ?_ ?_); kernel_rfl; kernel_rfl; (try simp only [List.take_succ_cons, List.take_zero, List.drop_succ_cons, List.drop_zero]); (repeat (any_goals (first | go_big_quiet_step ((first | (go_at_call 61; (with_reducible apply quiet_call); with_reducible exact vsum_c _ _ _ _) | (go_at_call 61; (with_reducible apply quiet_call); with_reducible exact vsum_c ⟨_, _, _⟩ ⟨_, _, _⟩ ⟨_, _, _⟩ _) | (go_at_call 62; (with_reducible apply quiet_call); with_reducible exact sqr_c _ _) | (go_at_call 62; (with_reducible apply quiet_call); with_reducible exact sqr_c ⟨_, _, _⟩ _))) | quiet_step ((first | (go_at_call 61; (with_reducible apply quiet_call); with_reducible exact vsum_c _ _ _ _) | (go_at_call 61; (with_reducible apply quiet_call); with_reducible exact vsum_c ⟨_, _, _⟩ ⟨_, _, _⟩ ⟨_, _, _⟩ _) | (go_at_call 62; (with_reducible apply quiet_call); with_reducible exact sqr_c _ _) | (go_at_call 62; (with_reducible apply quiet_call); with_reducible exact sqr_c ⟨_, _, _⟩ _)))))); (with_reducible refine wpQuiet_nil ?_); intro r))
  go_returns
  exact ⟨rfl, (by repeat (first | exact More.refl _ | refine More.alloc ?_ _ | refine More.more ?_ _ | refine More.drew ?_ | refine More.drewN ?_ _))⟩

set_option maxHeartbeats 4000000 in
theorem vunit_c (a : Pl) (W : World) :
    Calls Try.prog 43 #[plV a] W fun e w' => e = .returned (plV (plUnit a)) ∧ More W w' := by
  go_enter Try.func43, Try.ntmps43
  go_wp2_with (first | (go_at_call 10; (with_reducible refine (idiv_c _ _ _).mono ?_); rintro e w' ⟨rfl, r, rfl⟩) | (go_at_call 10; (with_reducible refine (idiv_c _ ⟨_, _, _⟩ _).mono ?_); rintro e w' ⟨rfl, r, rfl⟩) | (go_at_call 10; (with_reducible refine (idiv_c ⟨_, _, _⟩ _ _).mono ?_); rintro e w' ⟨rfl, r, rfl⟩) | (go_at_call 10; (with_reducible refine (idiv_c ⟨_, _, _⟩ ⟨_, _, _⟩ _).mono ?_); rintro e w' ⟨rfl, r, rfl⟩) | (go_at_call 13; (with_reducible refine (vof_c _ _ _ _).mono ?_); rintro e w' ⟨rfl, r, rfl⟩) | (go_at_call 13; (with_reducible refine (vof_c ⟨_, _, _⟩ ⟨_, _, _⟩ ⟨_, _, _⟩ _).mono ?_); rintro e w' ⟨rfl, r, rfl⟩) | (go_at_call 26; (with_reducible refine (vlen2_c _ _).mono ?_); rintro e w' ⟨rfl, r, rfl⟩) | (go_at_call 26; (with_reducible refine (vlen2_c ⟨_, _, _⟩ _).mono ?_); rintro e w' ⟨rfl, r, rfl⟩) | (go_at_call 26; (with_reducible refine (vlen2_c ⟨⟨_, _, _⟩, ⟨_, _, _⟩, ⟨_, _, _⟩⟩ _).mono ?_); rintro e w' ⟨rfl, r, rfl⟩) | (go_at_call 77; (with_reducible refine (iroot_c _ _).mono ?_); rintro e w' ⟨rfl, r, rfl⟩) | (go_at_call 77; (with_reducible refine (iroot_c ⟨_, _, _⟩ _).mono ?_); rintro e w' ⟨rfl, r, rfl⟩) | ((with_reducible show Code.wp _ (Code.region 2 _ true) _ _ _); (with_reducible refine wp_more_tailq_m (id := 2) 13 ?_ ?_ ?_); kernel_rfl; kernel_rfl; (try simp only [List.take_succ_cons, List.take_zero, List.drop_succ_cons, List.drop_zero]); (repeat (any_goals (first | go_big_quiet_step ((first | (go_at_call 10; (with_reducible apply quiet_call); with_reducible exact idiv_c _ _ _) | (go_at_call 10; (with_reducible apply quiet_call); with_reducible exact idiv_c _ ⟨_, _, _⟩ _) | (go_at_call 10; (with_reducible apply quiet_call); with_reducible exact idiv_c ⟨_, _, _⟩ _ _) | (go_at_call 10; (with_reducible apply quiet_call); with_reducible exact idiv_c ⟨_, _, _⟩ ⟨_, _, _⟩ _) | (go_at_call 13; (with_reducible apply quiet_call); with_reducible exact vof_c _ _ _ _) | (go_at_call 13; (with_reducible apply quiet_call); with_reducible exact vof_c ⟨_, _, _⟩ ⟨_, _, _⟩ ⟨_, _, _⟩ _))) | quiet_step ((first | (go_at_call 10; (with_reducible apply quiet_call); with_reducible exact idiv_c _ _ _) | (go_at_call 10; (with_reducible apply quiet_call); with_reducible exact idiv_c _ ⟨_, _, _⟩ _) | (go_at_call 10; (with_reducible apply quiet_call); with_reducible exact idiv_c ⟨_, _, _⟩ _ _) | (go_at_call 10; (with_reducible apply quiet_call); with_reducible exact idiv_c ⟨_, _, _⟩ ⟨_, _, _⟩ _) | (go_at_call 13; (with_reducible apply quiet_call); with_reducible exact vof_c _ _ _ _) | (go_at_call 13; (with_reducible apply quiet_call); with_reducible exact vof_c ⟨_, _, _⟩ ⟨_, _, _⟩ ⟨_, _, _⟩ _)))))); (with_reducible refine wpQuiet_nil ?_); intro r) | ((with_reducible show Code.wp _ (Code.region 2 _ true) _ _ _); (with_reducible refine wp_more_tailq (id := 2) 13 ?_ ?_ ?_); kernel_rfl; kernel_rfl; (try simp only [List.take_succ_cons, List.take_zero, List.drop_succ_cons, List.drop_zero]); (repeat (any_goals (first | go_big_quiet_step ((first | (go_at_call 10; (with_reducible apply quiet_call); with_reducible exact idiv_c _ _ _) | (go_at_call 10; (with_reducible apply quiet_call); with_reducible exact idiv_c _ ⟨_, _, _⟩ _) | (go_at_call 10; (with_reducible apply quiet_call); with_reducible exact idiv_c ⟨_, _, _⟩ _ _) | (go_at_call 10; (with_reducible apply quiet_call); with_reducible exact idiv_c ⟨_, _, _⟩ ⟨_, _, _⟩ _) | (go_at_call 13; (with_reducible apply quiet_call); with_reducible exact vof_c _ _ _ _) | (go_at_call 13; (with_reducible apply quiet_call); with_reducible exact vof_c ⟨_, _, _⟩ ⟨_, _, _⟩ ⟨_, _, _⟩ _))) | quiet_step ((first | (go_at_call 10; (with_reducible apply quiet_call); with_reducible exact idiv_c _ _ _) | (go_at_call 10; (with_reducible apply quiet_call); with_reducible exact idiv_c _ ⟨_, _, _⟩ _) | (go_at_call 10; (with_reducible apply quiet_call); with_reducible exact idiv_c ⟨_, _, _⟩ _ _) | (go_at_call 10; (with_reducible apply quiet_call); with_reducible exact idiv_c ⟨_, _, _⟩ ⟨_, _, _⟩ _) | (go_at_call 13; (with_reducible apply quiet_call); with_reducible exact vof_c _ _ _ _) | (go_at_call 13; (with_reducible apply quiet_call); with_reducible exact vof_c ⟨_, _, _⟩ ⟨_, _, _⟩ ⟨_, _, _⟩ _)))))); (with_reducible refine wpQuiet_nil ?_); intro r))
  go_returns
  exact ⟨rfl, (by repeat (first | exact More.refl _ | refine More.alloc ?_ _ | refine More.more ?_ _ | refine More.drew ?_ | refine More.drewN ?_ _))⟩

set_option maxHeartbeats 4000000 in
theorem vinside_c (a b : Pl) (W : World) :
    Calls Try.prog 25 #[plV a, plV b] W fun e w' => e = .returned (.bool (plInside a b)) ∧ More W w' := by
  unfold plInside
  cases h0 : ivInside a.x b.x <;> cases h1 : ivInside a.y b.y <;> cases h2 : ivInside a.z b.z
  all_goals
    go_enter Try.func25, Try.ntmps25
    go_wp2_with (first | (go_at_call 37; (with_reducible refine (inside_c _ _ _).mono ?_); rintro e w' ⟨rfl, r, rfl⟩) | (go_at_call 37; (with_reducible refine (inside_c _ ⟨_, _, _⟩ _).mono ?_); rintro e w' ⟨rfl, r, rfl⟩) | (go_at_call 37; (with_reducible refine (inside_c ⟨_, _, _⟩ _ _).mono ?_); rintro e w' ⟨rfl, r, rfl⟩) | (go_at_call 37; (with_reducible refine (inside_c ⟨_, _, _⟩ ⟨_, _, _⟩ _).mono ?_); rintro e w' ⟨rfl, r, rfl⟩))
    go_returns
    exact ⟨rfl, (by repeat (first | exact More.refl _ | refine More.alloc ?_ _ | refine More.more ?_ _ | refine More.drew ?_ | refine More.drewN ?_ _))⟩

set_option maxHeartbeats 4000000 in
theorem vmirror_c (a : Pl) (W : World) :
    Calls Try.prog 28 #[plV a] W fun e w' => e = .returned (plV (plMirror a)) ∧ More W w' := by
  go_enter Try.func28, Try.ntmps28
  go_wp2_with (first | (go_at_call 13; (with_reducible refine (vof_c _ _ _ _).mono ?_); rintro e w' ⟨rfl, r, rfl⟩) | (go_at_call 13; (with_reducible refine (vof_c ⟨_, _, _⟩ ⟨_, _, _⟩ ⟨_, _, _⟩ _).mono ?_); rintro e w' ⟨rfl, r, rfl⟩) | (go_at_call 63; (with_reducible refine (neg_c _ _).mono ?_); rintro e w' ⟨rfl, r, rfl⟩) | (go_at_call 63; (with_reducible refine (neg_c ⟨_, _, _⟩ _).mono ?_); rintro e w' ⟨rfl, r, rfl⟩) | ((with_reducible show Code.wp _ (Code.region 1 _ true) _ _ _); (with_reducible refine wp_more_tailq_m (id := 1) 8 ?_ ?_ ?_); kernel_rfl; kernel_rfl; (try simp only [List.take_succ_cons, List.take_zero, List.drop_succ_cons, List.drop_zero]); (repeat (any_goals (first | go_big_quiet_step ((first | (go_at_call 13; (with_reducible apply quiet_call); with_reducible exact vof_c _ _ _ _) | (go_at_call 13; (with_reducible apply quiet_call); with_reducible exact vof_c ⟨_, _, _⟩ ⟨_, _, _⟩ ⟨_, _, _⟩ _) | (go_at_call 63; (with_reducible apply quiet_call); with_reducible exact neg_c _ _) | (go_at_call 63; (with_reducible apply quiet_call); with_reducible exact neg_c ⟨_, _, _⟩ _))) | quiet_step ((first | (go_at_call 13; (with_reducible apply quiet_call); with_reducible exact vof_c _ _ _ _) | (go_at_call 13; (with_reducible apply quiet_call); with_reducible exact vof_c ⟨_, _, _⟩ ⟨_, _, _⟩ ⟨_, _, _⟩ _) | (go_at_call 63; (with_reducible apply quiet_call); with_reducible exact neg_c _ _) | (go_at_call 63; (with_reducible apply quiet_call); with_reducible exact neg_c ⟨_, _, _⟩ _)))))); (with_reducible refine wpQuiet_nil ?_); intro r) | ((with_reducible show Code.wp _ (Code.region 1 _ true) _ _ _); (with_reducible refine wp_more_tailq (id := 1) 8 ?_ ?_ ?_); kernel_rfl; kernel_rfl; (try simp only [List.take_succ_cons, List.take_zero, List.drop_succ_cons, List.drop_zero]); (repeat (any_goals (first | go_big_quiet_step ((first | (go_at_call 13; (with_reducible apply quiet_call); with_reducible exact vof_c _ _ _ _) | (go_at_call 13; (with_reducible apply quiet_call); with_reducible exact vof_c ⟨_, _, _⟩ ⟨_, _, _⟩ ⟨_, _, _⟩ _) | (go_at_call 63; (with_reducible apply quiet_call); with_reducible exact neg_c _ _) | (go_at_call 63; (with_reducible apply quiet_call); with_reducible exact neg_c ⟨_, _, _⟩ _))) | quiet_step ((first | (go_at_call 13; (with_reducible apply quiet_call); with_reducible exact vof_c _ _ _ _) | (go_at_call 13; (with_reducible apply quiet_call); with_reducible exact vof_c ⟨_, _, _⟩ ⟨_, _, _⟩ ⟨_, _, _⟩ _) | (go_at_call 63; (with_reducible apply quiet_call); with_reducible exact neg_c _ _) | (go_at_call 63; (with_reducible apply quiet_call); with_reducible exact neg_c ⟨_, _, _⟩ _)))))); (with_reducible refine wpQuiet_nil ?_); intro r))
  go_returns
  exact ⟨rfl, (by repeat (first | exact More.refl _ | refine More.alloc ?_ _ | refine More.more ?_ _ | refine More.drew ?_ | refine More.drewN ?_ _))⟩

set_option maxHeartbeats 4000000 in
theorem vturn_c (a : Pl) (k : Int) (W : World) :
    Calls Try.prog 27 #[plV a, .int .i64 k] W fun e w' => e = .returned (plV (plTurn a k)) ∧ More W w' := by
  have e := bits_and3 k
  obtain h | h | h | h : k % 4 = 0 ∨ k % 4 = 1 ∨ k % 4 = 2 ∨ k % 4 = 3 := by omega
  all_goals
    rw [h] at e
    go_enter Try.func27, Try.ntmps27
    go_wp2_with (first | (go_at_call 13; (with_reducible refine (vof_c _ _ _ _).mono ?_); rintro e w' ⟨rfl, r, rfl⟩) | (go_at_call 13; (with_reducible refine (vof_c ⟨_, _, _⟩ ⟨_, _, _⟩ ⟨_, _, _⟩ _).mono ?_); rintro e w' ⟨rfl, r, rfl⟩) | (go_at_call 63; (with_reducible refine (neg_c _ _).mono ?_); rintro e w' ⟨rfl, r, rfl⟩) | (go_at_call 63; (with_reducible refine (neg_c ⟨_, _, _⟩ _).mono ?_); rintro e w' ⟨rfl, r, rfl⟩) | ((with_reducible show Code.wp _ (Code.region 3 _ true) _ _ _); (with_reducible refine wp_more_tailq_m (id := 3) 8 ?_ ?_ ?_); kernel_rfl; kernel_rfl; (try simp only [List.take_succ_cons, List.take_zero, List.drop_succ_cons, List.drop_zero]); (repeat (any_goals (first | go_big_quiet_step ((first | (go_at_call 13; (with_reducible apply quiet_call); with_reducible exact vof_c _ _ _ _) | (go_at_call 13; (with_reducible apply quiet_call); with_reducible exact vof_c ⟨_, _, _⟩ ⟨_, _, _⟩ ⟨_, _, _⟩ _) | (go_at_call 63; (with_reducible apply quiet_call); with_reducible exact neg_c _ _) | (go_at_call 63; (with_reducible apply quiet_call); with_reducible exact neg_c ⟨_, _, _⟩ _))) | quiet_step ((first | (go_at_call 13; (with_reducible apply quiet_call); with_reducible exact vof_c _ _ _ _) | (go_at_call 13; (with_reducible apply quiet_call); with_reducible exact vof_c ⟨_, _, _⟩ ⟨_, _, _⟩ ⟨_, _, _⟩ _) | (go_at_call 63; (with_reducible apply quiet_call); with_reducible exact neg_c _ _) | (go_at_call 63; (with_reducible apply quiet_call); with_reducible exact neg_c ⟨_, _, _⟩ _)))))); (with_reducible refine wpQuiet_nil ?_); intro r) | ((with_reducible show Code.wp _ (Code.region 3 _ true) _ _ _); (with_reducible refine wp_more_tailq (id := 3) 8 ?_ ?_ ?_); kernel_rfl; kernel_rfl; (try simp only [List.take_succ_cons, List.take_zero, List.drop_succ_cons, List.drop_zero]); (repeat (any_goals (first | go_big_quiet_step ((first | (go_at_call 13; (with_reducible apply quiet_call); with_reducible exact vof_c _ _ _ _) | (go_at_call 13; (with_reducible apply quiet_call); with_reducible exact vof_c ⟨_, _, _⟩ ⟨_, _, _⟩ ⟨_, _, _⟩ _) | (go_at_call 63; (with_reducible apply quiet_call); with_reducible exact neg_c _ _) | (go_at_call 63; (with_reducible apply quiet_call); with_reducible exact neg_c ⟨_, _, _⟩ _))) | quiet_step ((first | (go_at_call 13; (with_reducible apply quiet_call); with_reducible exact vof_c _ _ _ _) | (go_at_call 13; (with_reducible apply quiet_call); with_reducible exact vof_c ⟨_, _, _⟩ ⟨_, _, _⟩ ⟨_, _, _⟩ _) | (go_at_call 63; (with_reducible apply quiet_call); with_reducible exact neg_c _ _) | (go_at_call 63; (with_reducible apply quiet_call); with_reducible exact neg_c ⟨_, _, _⟩ _)))))); (with_reducible refine wpQuiet_nil ?_); intro r))
    repeat (any_goals (first | (refine wp_loop_rounds 5 ?_) | (rw [rounds_succ]; go_wp2_with (first | (go_at_call 13; (with_reducible refine (vof_c _ _ _ _).mono ?_); rintro e w' ⟨rfl, r, rfl⟩) | (go_at_call 13; (with_reducible refine (vof_c ⟨_, _, _⟩ ⟨_, _, _⟩ ⟨_, _, _⟩ _).mono ?_); rintro e w' ⟨rfl, r, rfl⟩) | (go_at_call 63; (with_reducible refine (neg_c _ _).mono ?_); rintro e w' ⟨rfl, r, rfl⟩) | (go_at_call 63; (with_reducible refine (neg_c ⟨_, _, _⟩ _).mono ?_); rintro e w' ⟨rfl, r, rfl⟩) | ((with_reducible show Code.wp _ (Code.region 3 _ true) _ _ _); (with_reducible refine wp_more_tailq_m (id := 3) 8 ?_ ?_ ?_); kernel_rfl; kernel_rfl; (try simp only [List.take_succ_cons, List.take_zero, List.drop_succ_cons, List.drop_zero]); (repeat (any_goals (first | go_big_quiet_step ((first | (go_at_call 13; (with_reducible apply quiet_call); with_reducible exact vof_c _ _ _ _) | (go_at_call 13; (with_reducible apply quiet_call); with_reducible exact vof_c ⟨_, _, _⟩ ⟨_, _, _⟩ ⟨_, _, _⟩ _) | (go_at_call 63; (with_reducible apply quiet_call); with_reducible exact neg_c _ _) | (go_at_call 63; (with_reducible apply quiet_call); with_reducible exact neg_c ⟨_, _, _⟩ _))) | quiet_step ((first | (go_at_call 13; (with_reducible apply quiet_call); with_reducible exact vof_c _ _ _ _) | (go_at_call 13; (with_reducible apply quiet_call); with_reducible exact vof_c ⟨_, _, _⟩ ⟨_, _, _⟩ ⟨_, _, _⟩ _) | (go_at_call 63; (with_reducible apply quiet_call); with_reducible exact neg_c _ _) | (go_at_call 63; (with_reducible apply quiet_call); with_reducible exact neg_c ⟨_, _, _⟩ _)))))); (with_reducible refine wpQuiet_nil ?_); intro r) | ((with_reducible show Code.wp _ (Code.region 3 _ true) _ _ _); (with_reducible refine wp_more_tailq (id := 3) 8 ?_ ?_ ?_); kernel_rfl; kernel_rfl; (try simp only [List.take_succ_cons, List.take_zero, List.drop_succ_cons, List.drop_zero]); (repeat (any_goals (first | go_big_quiet_step ((first | (go_at_call 13; (with_reducible apply quiet_call); with_reducible exact vof_c _ _ _ _) | (go_at_call 13; (with_reducible apply quiet_call); with_reducible exact vof_c ⟨_, _, _⟩ ⟨_, _, _⟩ ⟨_, _, _⟩ _) | (go_at_call 63; (with_reducible apply quiet_call); with_reducible exact neg_c _ _) | (go_at_call 63; (with_reducible apply quiet_call); with_reducible exact neg_c ⟨_, _, _⟩ _))) | quiet_step ((first | (go_at_call 13; (with_reducible apply quiet_call); with_reducible exact vof_c _ _ _ _) | (go_at_call 13; (with_reducible apply quiet_call); with_reducible exact vof_c ⟨_, _, _⟩ ⟨_, _, _⟩ ⟨_, _, _⟩ _) | (go_at_call 63; (with_reducible apply quiet_call); with_reducible exact neg_c _ _) | (go_at_call 63; (with_reducible apply quiet_call); with_reducible exact neg_c ⟨_, _, _⟩ _)))))); (with_reducible refine wpQuiet_nil ?_); intro r)))))
    all_goals
      go_returns
      refine ⟨?_, (by repeat (first | exact More.refl _ | refine More.alloc ?_ _ | refine More.more ?_ _ | refine More.drew ?_ | refine More.drewN ?_ _))⟩
      simp [plTurn, h, plOne]

end Go.Proofs.Ytggohceeeggnmaa

