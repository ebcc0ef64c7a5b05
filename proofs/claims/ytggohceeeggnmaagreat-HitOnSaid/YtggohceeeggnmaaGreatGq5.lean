/-
  A struct of many cells goes into a block, and comes out of it, at once: cell by cell the check of a walk doubles with each.
  Places of raw numbers, of small ones, and such as lie in others; chapter 5's example.
  Places and ways in plain numbers: less in less; turned and mirrored; units; what is on a way.
  The contracts of the plain saying of chapter 5.
-/
import Derived.Test.YtggohceeeggnmaaGreatVec
import Derived.Test.YtggohceeeggnmaaGreatGa
import Derived.Test.YtggohceeeggnmaaGreatGb
import Derived.Test.YtggohceeeggnmaaGreatRefIv2

namespace Go.Proofs.YtggohceeeggnmaaGreat
set_option linter.unusedVariables false
open Go.ChangeShapes Go.WideShapes Go.ChangeAt Go.RowKit

theorem size_pl (w : World) : (sizeOf 32).run Tryz.prog w = .ok 9 w := by kernel_rfl
theorem agg_wy (w : World) : (isAgg 34).run Tryz.prog w = .ok true w := by kernel_rfl
theorem size_wy (w : World) : (sizeOf 34).run Tryz.prog w = .ok 18 w := by kernel_rfl

@[go_sem ↓ high] theorem storeVar_pl (a : Addr) (v : Value) : storeVar 32 a v = storeWhole 32 a v := rfl
@[go_sem ↓ high] theorem storeVar_wy (a : Addr) (v : Value) : storeVar 34 a v = storeWhole 34 a v := rfl
@[go_sem ↓ high] theorem loadVar_wy (a : Addr) : loadVar 34 a = loadWhole 34 a := rfl

@[go_sem] theorem run_store_pl (w : World) (b : Nat) (x0 x1 y0 y1 z0 z1 : Int) (x y z : Bool) :
    (storeWhole 32 ⟨b, 0, none⟩ (.agg #[.int .i64 x0, .int .i64 x1, .bool x, .int .i64 y0, .int .i64 y1, .bool y, .int .i64 z0, .int .i64 z1, .bool z])).run Tryz.prog w =
      if World.cellsIn w b = 9 then .ok () (w.setRow b #[.int .i64 x0, .int .i64 x1, .bool x, .int .i64 y0, .int .i64 y1, .bool y, .int .i64 z0, .int .i64 z1, .bool z]) else (storeElse 32 ⟨b, 0, none⟩ (.agg #[.int .i64 x0, .int .i64 x1, .bool x, .int .i64 y0, .int .i64 y1, .bool y, .int .i64 z0, .int .i64 z1, .bool z])).run Tryz.prog w := by
  split
  · rename_i h
    exact run_storeWhole (vs := [.int .i64 x0, .int .i64 x1, .bool x, .int .i64 y0, .int .i64 y1, .bool y, .int .i64 z0, .int .i64 z1, .bool z]) (size_pl w) rfl (by decide) (by simp [Value.oneCell']) h
  · rfl

@[go_sem] theorem run_store_wy (w : World) (b : Nat) (x0 x1 y0 y1 z0 z1 u0 u1 v0 v1 p0 p1 : Int) (x y z u v p : Bool) :
    (storeWhole 34 ⟨b, 0, none⟩ (.agg #[.int .i64 x0, .int .i64 x1, .bool x, .int .i64 y0, .int .i64 y1, .bool y, .int .i64 z0, .int .i64 z1, .bool z, .int .i64 u0, .int .i64 u1, .bool u, .int .i64 v0, .int .i64 v1, .bool v, .int .i64 p0, .int .i64 p1, .bool p])).run Tryz.prog w =
      if World.cellsIn w b = 18 then .ok () (w.setRow b #[.int .i64 x0, .int .i64 x1, .bool x, .int .i64 y0, .int .i64 y1, .bool y, .int .i64 z0, .int .i64 z1, .bool z, .int .i64 u0, .int .i64 u1, .bool u, .int .i64 v0, .int .i64 v1, .bool v, .int .i64 p0, .int .i64 p1, .bool p]) else (storeElse 34 ⟨b, 0, none⟩ (.agg #[.int .i64 x0, .int .i64 x1, .bool x, .int .i64 y0, .int .i64 y1, .bool y, .int .i64 z0, .int .i64 z1, .bool z, .int .i64 u0, .int .i64 u1, .bool u, .int .i64 v0, .int .i64 v1, .bool v, .int .i64 p0, .int .i64 p1, .bool p])).run Tryz.prog w := by
  split
  · rename_i h
    exact run_storeWhole (vs := [.int .i64 x0, .int .i64 x1, .bool x, .int .i64 y0, .int .i64 y1, .bool y, .int .i64 z0, .int .i64 z1, .bool z, .int .i64 u0, .int .i64 u1, .bool u, .int .i64 v0, .int .i64 v1, .bool v, .int .i64 p0, .int .i64 p1, .bool p]) (size_wy w) rfl (by decide) (by simp [Value.oneCell']) h
  · rfl

@[go_sem] theorem run_load_wy (w : World) (b : Nat) :
    (loadWhole 34 ⟨b, 0, none⟩).run Tryz.prog w = if World.cellsIn w b = 18 then .ok (.agg (World.cellsOf w b)) w else (loadElse 34 ⟨b, 0, none⟩).run Tryz.prog w := by
  split
  · rename_i h
    exact run_loadWhole (agg_wy w) (size_wy w) (by decide) h
  · rfl

end Go.Proofs.YtggohceeeggnmaaGreat

namespace Go.Proofs.YtggohceeeggnmaaGreat
set_option linter.unusedVariables false
open Go.ChangeShapes Go.WideShapes Go.ChangeAt Go.RowKit

structure Six where
  a : Int
  b : Int
  c : Int
  d : Int
  e : Int
  f : Int

@[reducible] def sixV (s : Six) : Value := .agg #[.int .i64 s.a, .int .i64 s.b, .int .i64 s.c, .int .i64 s.d, .int .i64 s.e, .int .i64 s.f]

@[reducible] def In64 (n : Int) : Prop := -9223372036854775808 ≤ n ∧ n ≤ 9223372036854775807
def OkSix (s : Six) : Prop := In64 s.a ∧ In64 s.b ∧ In64 s.c ∧ In64 s.d ∧ In64 s.e ∧ In64 s.f

def hInV (a : Pl) (x y : Int) : Pl := ⟨hIn a.x x y, hIn a.y (x.tdiv 3) (y.tdiv 5), hIn a.z (x.tdiv 7) (y.tdiv 11)⟩

set_option maxHeartbeats 4000000 in
theorem hinv_c (a : Pl) (x y : Int) (hx : -9223372036854775808 ≤ x) (hx' : x ≤ 9223372036854775807) (hy : -9223372036854775808 ≤ y) (hy' : y ≤ 9223372036854775807) (W : World) :
    Calls Tryz.prog 53 #[plV a, .int .i64 x, .int .i64 y] W fun e w' => e = .returned (plV (hInV a x y)) ∧ More W w' := by
  have t3 := tdiv_bd x 3 hx hx' (by omega)
  have t7 := tdiv_bd x 7 hx hx' (by omega)
  have t5 := tdiv_bd y 5 hy hy' (by omega)
  have t11 := tdiv_bd y 11 hy hy' (by omega)
  go_enter Tryz.func53, Tryz.ntmps53
  go_wp2_with (first | (go_at_call 96; (with_reducible refine (hin_c _ _ _ (by omega) (by omega) (by omega) (by omega) _).mono ?_); rintro e w' ⟨rfl, r, rfl⟩) | (go_at_call 96; (with_reducible refine (hin_c ⟨_, _, _⟩ _ _ (by omega) (by omega) (by omega) (by omega) _).mono ?_); rintro e w' ⟨rfl, r, rfl⟩) | ((with_reducible show Code.wp _ (Code.region 1 _ true) _ _ _); (with_reducible refine wp_more_tailq_m (id := 1) 20 ?_ ?_ ?_); kernel_rfl; kernel_rfl; (try simp only [List.take_succ_cons, List.take_zero, List.drop_succ_cons, List.drop_zero]); (repeat (any_goals (first | go_big_quiet_step ((first | (go_at_call 96; (with_reducible apply quiet_call); with_reducible exact hin_c _ _ _ (by omega) (by omega) (by omega) (by omega) _) | (go_at_call 96; (with_reducible apply quiet_call); with_reducible exact hin_c ⟨_, _, _⟩ _ _ (by omega) (by omega) (by omega) (by omega) _))) | quiet_step ((first | (go_at_call 96; (with_reducible apply quiet_call); with_reducible exact hin_c _ _ _ (by omega) (by omega) (by omega) (by omega) _) | (go_at_call 96; (with_reducible apply quiet_call); with_reducible exact hin_c ⟨_, _, _⟩ _ _ (by omega) (by omega) (by omega) (by omega) _)))))); (with_reducible refine wpQuiet_nil ?_); intro r) | ((with_reducible show Code.wp _ (Code.region 1 _ true) _ _ _); (with_reducible refine wp_more_tailq (id := 1) 20 ?_ ?_ ?_); kernel_rfl; kernel_rfl; (try simp only [List.take_succ_cons, List.take_zero, List.drop_succ_cons, List.drop_zero]); (repeat (any_goals (first | go_big_quiet_step ((first | (go_at_call 96; (with_reducible apply quiet_call); with_reducible exact hin_c _ _ _ (by omega) (by omega) (by omega) (by omega) _) | (go_at_call 96; (with_reducible apply quiet_call); with_reducible exact hin_c ⟨_, _, _⟩ _ _ (by omega) (by omega) (by omega) (by omega) _))) | quiet_step ((first | (go_at_call 96; (with_reducible apply quiet_call); with_reducible exact hin_c _ _ _ (by omega) (by omega) (by omega) (by omega) _) | (go_at_call 96; (with_reducible apply quiet_call); with_reducible exact hin_c ⟨_, _, _⟩ _ _ (by omega) (by omega) (by omega) (by omega) _)))))); (with_reducible refine wpQuiet_nil ?_); intro r))
  go_returns
  exact ⟨rfl, (by repeat (first | exact More.refl _ | refine More.alloc ?_ _ | refine More.more ?_ _ | refine More.drew ?_ | refine More.drewN ?_ _))⟩

end Go.Proofs.YtggohceeeggnmaaGreat

namespace Go.Proofs.YtggohceeeggnmaaGreat
set_option linter.unusedVariables false

def PRight (a : Pl) : Prop := ivRight a.x = true ∧ ivRight a.y = true ∧ ivRight a.z = true
def PPart (p a : Pl) : Prop := Part p.x a.x ∧ Part p.y a.y ∧ Part p.z a.z
theorem plRight_iff {a : Pl} : plRight a = true ↔ PRight a := by
  unfold plRight PRight
  simp only [Bool.and_eq_true, and_assoc]
theorem hInV_part {a : Pl} (h : PRight a) (x y : Int) : PPart (hInV a x y) a := ⟨hIn_part _ _ h.1, hIn_part _ _ h.2.1, hIn_part _ _ h.2.2⟩

/-! Less in less. -/
/-! Turned, and mirrored. -/
/-! On a way. -/
/-! Units. -/
/-! Pythagorean ways. -/
end Go.Proofs.YtggohceeeggnmaaGreat

namespace Go.Proofs.YtggohceeeggnmaaGreat
set_option linter.unusedVariables false
open Go.ChangeShapes Go.WideShapes Go.ChangeAt Go.RowKit

set_option maxHeartbeats 4000000 in
theorem rvlen2_c (a : Pl) (W : World) :
    Calls Tryz.prog 75 #[plV a] W fun e w' => e = .returned (ivV (plLen2 a)) ∧ More W w' := by
  go_enter Tryz.func75, Tryz.ntmps75
  go_wp2_with (first | (go_at_call 40; (with_reducible refine (radd_c _ _ _).mono ?_); rintro e w' ⟨rfl, r, rfl⟩) | (go_at_call 40; (with_reducible refine (radd_c _ ⟨_, _, _⟩ _).mono ?_); rintro e w' ⟨rfl, r, rfl⟩) | (go_at_call 40; (with_reducible refine (radd_c ⟨_, _, _⟩ _ _).mono ?_); rintro e w' ⟨rfl, r, rfl⟩) | (go_at_call 40; (with_reducible refine (radd_c ⟨_, _, _⟩ ⟨_, _, _⟩ _).mono ?_); rintro e w' ⟨rfl, r, rfl⟩) | (go_at_call 41; (with_reducible refine (rsqr_c _ _).mono ?_); rintro e w' ⟨rfl, r, rfl⟩) | (go_at_call 41; (with_reducible refine (rsqr_c ⟨_, _, _⟩ _).mono ?_); rintro e w' ⟨rfl, r, rfl⟩) | ((with_reducible show Code.wp _ (Code.region 1 _ true) _ _ _); (with_reducible refine wp_more_tailq_m (id := 1) 11 ?_ ?_ ?_); kernel_rfl; kernel_rfl; (try simp only [List.take_succ_cons, List.take_zero, List.drop_succ_cons, List.drop_zero]); (repeat (any_goals (first | go_big_quiet_step ((first | (go_at_call 40; (with_reducible apply quiet_call); with_reducible exact radd_c _ _ _) | (go_at_call 40; (with_reducible apply quiet_call); with_reducible exact radd_c _ ⟨_, _, _⟩ _) | (go_at_call 40; (with_reducible apply quiet_call); with_reducible exact radd_c ⟨_, _, _⟩ _ _) | (go_at_call 40; (with_reducible apply quiet_call); with_reducible exact radd_c ⟨_, _, _⟩ ⟨_, _, _⟩ _) | (go_at_call 41; (with_reducible apply quiet_call); with_reducible exact rsqr_c _ _) | (go_at_call 41; (with_reducible apply quiet_call); with_reducible exact rsqr_c ⟨_, _, _⟩ _))) | quiet_step ((first | (go_at_call 40; (with_reducible apply quiet_call); with_reducible exact radd_c _ _ _) | (go_at_call 40; (with_reducible apply quiet_call); with_reducible exact radd_c _ ⟨_, _, _⟩ _) | (go_at_call 40; (with_reducible apply quiet_call); with_reducible exact radd_c ⟨_, _, _⟩ _ _) | (go_at_call 40; (with_reducible apply quiet_call); with_reducible exact radd_c ⟨_, _, _⟩ ⟨_, _, _⟩ _) | (go_at_call 41; (with_reducible apply quiet_call); with_reducible exact rsqr_c _ _) | (go_at_call 41; (with_reducible apply quiet_call); with_reducible exact rsqr_c ⟨_, _, _⟩ _)))))); (with_reducible refine wpQuiet_nil ?_); intro r) | ((with_reducible show Code.wp _ (Code.region 1 _ true) _ _ _); (with_reducible refine wp_more_tailq (id := 1) 11 ?_ ?_ ?_); kernel_rfl; kernel_rfl; (try simp only [List.take_succ_cons, List.take_zero, List.drop_succ_cons, List.drop_zero]); (repeat (any_goals (first | go_big_quiet_step ((first | (go_at_call 40; (with_reducible apply quiet_call); with_reducible exact radd_c _ _ _) | (go_at_call 40; (with_reducible apply quiet_call); with_reducible exact radd_c _ ⟨_, _, _⟩ _) | (go_at_call 40; (with_reducible apply quiet_call); with_reducible exact radd_c ⟨_, _, _⟩ _ _) | (go_at_call 40; (with_reducible apply quiet_call); with_reducible exact radd_c ⟨_, _, _⟩ ⟨_, _, _⟩ _) | (go_at_call 41; (with_reducible apply quiet_call); with_reducible exact rsqr_c _ _) | (go_at_call 41; (with_reducible apply quiet_call); with_reducible exact rsqr_c ⟨_, _, _⟩ _))) | quiet_step ((first | (go_at_call 40; (with_reducible apply quiet_call); with_reducible exact radd_c _ _ _) | (go_at_call 40; (with_reducible apply quiet_call); with_reducible exact radd_c _ ⟨_, _, _⟩ _) | (go_at_call 40; (with_reducible apply quiet_call); with_reducible exact radd_c ⟨_, _, _⟩ _ _) | (go_at_call 40; (with_reducible apply quiet_call); with_reducible exact radd_c ⟨_, _, _⟩ ⟨_, _, _⟩ _) | (go_at_call 41; (with_reducible apply quiet_call); with_reducible exact rsqr_c _ _) | (go_at_call 41; (with_reducible apply quiet_call); with_reducible exact rsqr_c ⟨_, _, _⟩ _)))))); (with_reducible refine wpQuiet_nil ?_); intro r))
  go_returns
  exact ⟨rfl, (by repeat (first | exact More.refl _ | refine More.alloc ?_ _ | refine More.more ?_ _ | refine More.drew ?_ | refine More.drewN ?_ _))⟩

set_option maxHeartbeats 4000000 in
theorem rvunit_c (a : Pl) (W : World) :
    Calls Tryz.prog 31 #[plV a] W fun e w' => e = .returned (plV (plUnit a)) ∧ More W w' := by
  go_enter Tryz.func31, Tryz.ntmps31
  go_wp2_with (first | (go_at_call 69; (with_reducible refine (rdiviv_c _ _ _).mono ?_); rintro e w' ⟨rfl, r, rfl⟩) | (go_at_call 69; (with_reducible refine (rdiviv_c _ ⟨_, _, _⟩ _).mono ?_); rintro e w' ⟨rfl, r, rfl⟩) | (go_at_call 69; (with_reducible refine (rdiviv_c ⟨_, _, _⟩ _ _).mono ?_); rintro e w' ⟨rfl, r, rfl⟩) | (go_at_call 69; (with_reducible refine (rdiviv_c ⟨_, _, _⟩ ⟨_, _, _⟩ _).mono ?_); rintro e w' ⟨rfl, r, rfl⟩) | (go_at_call 74; (with_reducible refine (riroot_c _ _).mono ?_); rintro e w' ⟨rfl, r, rfl⟩) | (go_at_call 74; (with_reducible refine (riroot_c ⟨_, _, _⟩ _).mono ?_); rintro e w' ⟨rfl, r, rfl⟩) | (go_at_call 75; (with_reducible refine (rvlen2_c _ _).mono ?_); rintro e w' ⟨rfl, r, rfl⟩) | (go_at_call 75; (with_reducible refine (rvlen2_c ⟨_, _, _⟩ _).mono ?_); rintro e w' ⟨rfl, r, rfl⟩) | (go_at_call 75; (with_reducible refine (rvlen2_c ⟨⟨_, _, _⟩, ⟨_, _, _⟩, ⟨_, _, _⟩⟩ _).mono ?_); rintro e w' ⟨rfl, r, rfl⟩) | ((with_reducible show Code.wp _ (Code.region 2 _ true) _ _ _); (with_reducible refine wp_more_tailq_m (id := 2) 13 ?_ ?_ ?_); kernel_rfl; kernel_rfl; (try simp only [List.take_succ_cons, List.take_zero, List.drop_succ_cons, List.drop_zero]); (repeat (any_goals (first | go_big_quiet_step ((first | (go_at_call 69; (with_reducible apply quiet_call); with_reducible exact rdiviv_c _ _ _) | (go_at_call 69; (with_reducible apply quiet_call); with_reducible exact rdiviv_c _ ⟨_, _, _⟩ _) | (go_at_call 69; (with_reducible apply quiet_call); with_reducible exact rdiviv_c ⟨_, _, _⟩ _ _) | (go_at_call 69; (with_reducible apply quiet_call); with_reducible exact rdiviv_c ⟨_, _, _⟩ ⟨_, _, _⟩ _))) | quiet_step ((first | (go_at_call 69; (with_reducible apply quiet_call); with_reducible exact rdiviv_c _ _ _) | (go_at_call 69; (with_reducible apply quiet_call); with_reducible exact rdiviv_c _ ⟨_, _, _⟩ _) | (go_at_call 69; (with_reducible apply quiet_call); with_reducible exact rdiviv_c ⟨_, _, _⟩ _ _) | (go_at_call 69; (with_reducible apply quiet_call); with_reducible exact rdiviv_c ⟨_, _, _⟩ ⟨_, _, _⟩ _)))))); (with_reducible refine wpQuiet_nil ?_); intro r) | ((with_reducible show Code.wp _ (Code.region 2 _ true) _ _ _); (with_reducible refine wp_more_tailq (id := 2) 13 ?_ ?_ ?_); kernel_rfl; kernel_rfl; (try simp only [List.take_succ_cons, List.take_zero, List.drop_succ_cons, List.drop_zero]); (repeat (any_goals (first | go_big_quiet_step ((first | (go_at_call 69; (with_reducible apply quiet_call); with_reducible exact rdiviv_c _ _ _) | (go_at_call 69; (with_reducible apply quiet_call); with_reducible exact rdiviv_c _ ⟨_, _, _⟩ _) | (go_at_call 69; (with_reducible apply quiet_call); with_reducible exact rdiviv_c ⟨_, _, _⟩ _ _) | (go_at_call 69; (with_reducible apply quiet_call); with_reducible exact rdiviv_c ⟨_, _, _⟩ ⟨_, _, _⟩ _))) | quiet_step ((first | (go_at_call 69; (with_reducible apply quiet_call); with_reducible exact rdiviv_c _ _ _) | (go_at_call 69; (with_reducible apply quiet_call); with_reducible exact rdiviv_c _ ⟨_, _, _⟩ _) | (go_at_call 69; (with_reducible apply quiet_call); with_reducible exact rdiviv_c ⟨_, _, _⟩ _ _) | (go_at_call 69; (with_reducible apply quiet_call); with_reducible exact rdiviv_c ⟨_, _, _⟩ ⟨_, _, _⟩ _)))))); (with_reducible refine wpQuiet_nil ?_); intro r))
  go_returns
  exact ⟨rfl, (by repeat (first | exact More.refl _ | refine More.alloc ?_ _ | refine More.more ?_ _ | refine More.drew ?_ | refine More.drewN ?_ _))⟩

end Go.Proofs.YtggohceeeggnmaaGreat
