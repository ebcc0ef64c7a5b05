/-
  Places of raw numbers, of small ones, and such as lie in others; chapter 5's example.
  Places and ways in plain numbers: less in less; turned and mirrored; units; what is on a way.
  A struct of many cells goes into a block, and comes out of it, at once: cell by cell the check of a walk doubles with each.
  The contracts of the plain saying of chapter 5.
-/
import Derived.Test.YtggohceeeggnmaaVec
import Derived.Test.YtggohceeeggnmaaGb
import Derived.Test.YtggohceeeggnmaaGa
import Derived.Test.YtggohceeeggnmaaRefIv2

namespace Go.Proofs.Ytggohceeeggnmaa
set_option linter.unusedVariables false
open Go.ChangeShapes Go.WideShapes Go.ChangeAt Go.RowKit

structure Six where
  a : Int
  b : Int
  c : Int
  d : Int
  e : Int
  f : Int

@[reducible] def sixV (s : Six) : Value := .agg #[.int .i64 s.a, .int .i64 s.b, .int .i64 s.c, .int .i64 s.d, .int .i64 s.e, .int .i64 s.f]

@[reducible] def In64 (n : Int) : Prop := -9223372036854775808 ≤ n ∧ n ≤ 9223372036854775807
def OkSix (s : Six) : Prop := In64 s.a ∧ In64 s.b ∧ In64 s.c ∧ In64 s.d ∧ In64 s.e ∧ In64 s.f

def hPl (s : Six) : Pl := ⟨hIv s.a s.b, hIv s.c s.d, hIv s.e s.f⟩
def hInV (a : Pl) (x y : Int) : Pl := ⟨hIn a.x x y, hIn a.y (x.tdiv 3) (y.tdiv 5), hIn a.z (x.tdiv 7) (y.tdiv 11)⟩

set_option maxHeartbeats 4000000 in
theorem hv_c (s : Six) (h : OkSix s) (W : World) :
    Calls Try.prog 21 #[sixV s] W fun e w' => e = .returned (plV (hPl s)) ∧ More W w' := by
  obtain ⟨⟨b0, c0⟩, ⟨b1, c1⟩, ⟨b2, c2⟩, ⟨b3, c3⟩, ⟨b4, c4⟩, b5, c5⟩ := h
  go_enter Try.func21, Try.ntmps21
  go_wp2_with (first | (go_at_call 51; (with_reducible refine (hiv_c _ _ (by omega) (by omega) (by omega) (by omega) _).mono ?_); rintro e w' ⟨rfl, r, rfl⟩) | ((with_reducible show Code.wp _ (Code.region 1 _ true) _ _ _); (with_reducible refine wp_more_tailq_m (id := 1) 16 ?_ ?_ ?_); kernel_rfl; kernel_rfl; (try simp only [List.take_succ_cons, List.take_zero, List.drop_succ_cons, List.drop_zero]); (repeat (any_goals (first | go_big_quiet_step ((first | (go_at_call 51; (with_reducible apply quiet_call); with_reducible exact hiv_c _ _ (by omega) (by omega) (by omega) (by omega) _))) | quiet_step ((first | (go_at_call 51; (with_reducible apply quiet_call); with_reducible exact hiv_c _ _ (by omega) (by omega) (by omega) (by omega) _)))))); (with_reducible refine wpQuiet_nil ?_); intro r) | ((with_reducible show Code.wp _ (Code.region 1 _ true) _ _ _); (with_reducible refine wp_more_tailq (id := 1) 16 ?_ ?_ ?_); kernel_rfl; kernel_rfl; (try simp only [List.take_succ_cons, List.take_zero, List.drop_succ_cons, List.drop_zero]); (repeat (any_goals (first | go_big_quiet_step ((first | (go_at_call 51; (with_reducible apply quiet_call); with_reducible exact hiv_c _ _ (by omega) (by omega) (by omega) (by omega) _))) | quiet_step ((first | (go_at_call 51; (with_reducible apply quiet_call); with_reducible exact hiv_c _ _ (by omega) (by omega) (by omega) (by omega) _)))))); (with_reducible refine wpQuiet_nil ?_); intro r))
  go_returns
  exact ⟨rfl, (by repeat (first | exact More.refl _ | refine More.alloc ?_ _ | refine More.more ?_ _ | refine More.drew ?_ | refine More.drewN ?_ _))⟩

set_option maxHeartbeats 4000000 in
theorem hinv_c (a : Pl) (x y : Int) (hx : -9223372036854775808 ≤ x) (hx' : x ≤ 9223372036854775807) (hy : -9223372036854775808 ≤ y) (hy' : y ≤ 9223372036854775807) (W : World) :
    Calls Try.prog 23 #[plV a, .int .i64 x, .int .i64 y] W fun e w' => e = .returned (plV (hInV a x y)) ∧ More W w' := by
  have t3 := tdiv_bd x 3 hx hx' (by omega)
  have t7 := tdiv_bd x 7 hx hx' (by omega)
  have t5 := tdiv_bd y 5 hy hy' (by omega)
  have t11 := tdiv_bd y 11 hy hy' (by omega)
  go_enter Try.func23, Try.ntmps23
  go_wp2_with (first | (go_at_call 36; (with_reducible refine (hin_c _ _ _ (by omega) (by omega) (by omega) (by omega) _).mono ?_); rintro e w' ⟨rfl, r, rfl⟩) | (go_at_call 36; (with_reducible refine (hin_c ⟨_, _, _⟩ _ _ (by omega) (by omega) (by omega) (by omega) _).mono ?_); rintro e w' ⟨rfl, r, rfl⟩) | ((with_reducible show Code.wp _ (Code.region 1 _ true) _ _ _); (with_reducible refine wp_more_tailq_m (id := 1) 20 ?_ ?_ ?_); kernel_rfl; kernel_rfl; (try simp only [List.take_succ_cons, List.take_zero, List.drop_succ_cons, List.drop_zero]); (repeat (any_goals (first | go_big_quiet_step ((first | (go_at_call 36; (with_reducible apply quiet_call); with_reducible exact hin_c _ _ _ (by omega) (by omega) (by omega) (by omega) _) | (go_at_call 36; (with_reducible apply quiet_call); with_reducible exact hin_c ⟨_, _, _⟩ _ _ (by omega) (by omega) (by omega) (by omega) _))) | quiet_step ((first | (go_at_call 36; (with_reducible apply quiet_call); with_reducible exact hin_c _ _ _ (by omega) (by omega) (by omega) (by omega) _) | (go_at_call 36; (with_reducible apply quiet_call); with_reducible exact hin_c ⟨_, _, _⟩ _ _ (by omega) (by omega) (by omega) (by omega) _)))))); (with_reducible refine wpQuiet_nil ?_); intro r) | ((with_reducible show Code.wp _ (Code.region 1 _ true) _ _ _); (with_reducible refine wp_more_tailq (id := 1) 20 ?_ ?_ ?_); kernel_rfl; kernel_rfl; (try simp only [List.take_succ_cons, List.take_zero, List.drop_succ_cons, List.drop_zero]); (repeat (any_goals (first | go_big_quiet_step ((first | (go_at_call 36; (with_reducible apply quiet_call); with_reducible exact hin_c _ _ _ (by omega) (by omega) (by omega) (by omega) _) | (go_at_call 36; (with_reducible apply quiet_call); with_reducible exact hin_c ⟨_, _, _⟩ _ _ (by omega) (by omega) (by omega) (by omega) _))) | quiet_step ((first | (go_at_call 36; (with_reducible apply quiet_call); with_reducible exact hin_c _ _ _ (by omega) (by omega) (by omega) (by omega) _) | (go_at_call 36; (with_reducible apply quiet_call); with_reducible exact hin_c ⟨_, _, _⟩ _ _ (by omega) (by omega) (by omega) (by omega) _)))))); (with_reducible refine wpQuiet_nil ?_); intro r))
  go_returns
  exact ⟨rfl, (by repeat (first | exact More.refl _ | refine More.alloc ?_ _ | refine More.more ?_ _ | refine More.drew ?_ | refine More.drewN ?_ _))⟩

end Go.Proofs.Ytggohceeeggnmaa

namespace Go.Proofs.Ytggohceeeggnmaa
set_option linter.unusedVariables false

def PRight (a : Pl) : Prop := ivRight a.x = true ∧ ivRight a.y = true ∧ ivRight a.z = true
def PPart (p a : Pl) : Prop := Part p.x a.x ∧ Part p.y a.y ∧ Part p.z a.z
theorem plRight_iff {a : Pl} : plRight a = true ↔ PRight a := by
  unfold plRight PRight
  simp only [Bool.and_eq_true, and_assoc]
theorem hInV_part {a : Pl} (h : PRight a) (x y : Int) : PPart (hInV a x y) a := ⟨hIn_part _ _ h.1, hIn_part _ _ h.2.1, hIn_part _ _ h.2.2⟩

/-! Less in less. -/
/-! Turned, and mirrored. -/
theorem sum_swap (a b c : Iv) : plSum b a c = plSum a b c := by unfold plSum; rw [add_comm' b a]
theorem turn_of {a : Pl} {k m : Int} (h : k % 4 = m) : plTurn a k = if m = 0 then a else if m = 1 then plOne a else if m = 2 then plOne (plOne a) else plOne (plOne (plOne a)) := by
  unfold plTurn
  rw [h]
/-! On a way. -/
/-! Units. -/
theorem sum_right {a b c : Iv} (h : ivRight (plSum a b c) = true) : (ivRight a = true ∧ ivRight b = true ∧ ivRight c = true) ∧ plSum a b c = ⟨a.lo + b.lo + c.lo, a.hi + b.hi + c.hi, false⟩ := by
  have h1 := rights_add h
  have h2 := rights_add h1.1
  refine ⟨⟨h2.1, h2.2, h1.2⟩, ?_⟩
  have e : ivAdd a b = ⟨a.lo + b.lo, a.hi + b.hi, false⟩ := by
    have h3 := h1.1
    unfold ivAdd at h3 ⊢
    rw [if_pos (both_iff.2 h2)] at h3 ⊢
    exact of_yes (right_of_of.1 h3)
  unfold plSum at h ⊢
  rw [e] at h h1 ⊢
  unfold ivAdd at h ⊢
  rw [if_pos (both_iff.2 h1)] at h ⊢
  exact of_yes (right_of_of.1 h)
theorem unit_has {x : Pl} (h : plRight (plUnit x) = true) (hs : ivRight (plLen2 (plUnit x)) = true) : ivHas (plLen2 (plUnit x)) 65536 = true := by
  obtain ⟨hx, hy, hz⟩ := plRight_iff.1 h
  have hL := (both_iff.1 (div_right hx).1).2
  have hO := (div_right hx).2.1
  obtain ⟨l0, l1, l2, l3, l4⟩ := root_ends hL
  obtain ⟨⟨q1, q2, q3⟩, qe⟩ := sum_right (rights_root hL)
  obtain ⟨⟨r1, r2, r3⟩, re⟩ := sum_right hs
  have b1 := right_bd (rights_sqr q1)
  have b2 := right_bd (rights_sqr q2)
  have b3 := right_bd (rights_sqr q3)
  have d1 := fun q hq => div_encloses (p := x.x.lo) (q := q) hx (by omega) hq
  have d2 := fun q hq => div_encloses (p := x.y.lo) (q := q) hy (by omega) hq
  have d3 := fun q hq => div_encloses (p := x.z.lo) (q := q) hz (by omega) hq
  have hr : ivRoot (plLen2 x) = ivRoot (plSum (ivSqr x.x) (ivSqr x.y) (ivSqr x.z)) := rfl
  have el : (plSum (ivSqr x.x) (ivSqr x.y) (ivSqr x.z)).lo = (ivSqr x.x).lo + (ivSqr x.y).lo + (ivSqr x.z).lo := by rw [qe]
  have eh : (plSum (ivSqr x.x) (ivSqr x.y) (ivSqr x.z)).hi = (ivSqr x.x).hi + (ivSqr x.y).hi + (ivSqr x.z).hi := by rw [qe]
  unfold plLen2 at l0 l3 l4
  rw [el] at l3
  rw [eh] at l4
  rw [← hr] at l3 l4
  have w1 := sqr_of_lo q1
  have w2 := sqr_of_lo q2
  have w3 := sqr_of_lo q3
  have hpos : 0 < (ivRoot (plLen2 x)).lo := by
    unfold Off at hO
    omega
  generalize hLL : ivRoot (plLen2 x) = L at *
  have sq0 := Int.mul_pos hpos hpos
  obtain ⟨n, hn⟩ : ∃ n, x.x.lo * x.x.lo + x.y.lo * x.y.lo + x.z.lo * x.z.lo = n := ⟨_, rfl⟩
  have hl : L.lo * L.lo ≤ n := by omega
  have hh : n ≤ L.hi * L.hi := by omega
  have key : ∀ (u : Iv) (p : Int), ivRight (ivSqr u) = true → (∀ q, L.lo ≤ q ∧ q ≤ L.hi → (0 < q ∧ u.lo * q ≤ p * 65536 ∧ p * 65536 ≤ u.hi * q) ∨ (q < 0 ∧ p * 65536 ≤ u.lo * q ∧ u.hi * q ≤ p * 65536)) →
      (ivSqr u).lo * n ≤ p * p * 65536 ∧ p * p * 65536 ≤ (ivSqr u).hi * n := by
    intro u p hu hq
    have a1 := hq L.lo (by omega)
    have a2 := hq L.hi (by omega)
    have t := unit_part (u := u) (P := p * 65536) (rl := L.lo) (rh := L.hi) (n := n) hu hpos l2 hl hh (by omega) (by omega) (by omega) (by omega)
    rw [show p * 65536 * (p * 65536) = p * p * 65536 * 65536 by rw [Int.mul_assoc, Int.mul_left_comm 65536 p, ← Int.mul_assoc, ← Int.mul_assoc],
      Int.mul_right_comm, Int.mul_right_comm (ivSqr u).hi] at t
    omega
  have ux : (plUnit x).x = ivDiv x.x L := by rw [← hLL]; rfl
  have uy : (plUnit x).y = ivDiv x.y L := by rw [← hLL]; rfl
  have uz : (plUnit x).z = ivDiv x.z L := by rw [← hLL]; rfl
  rw [ux] at r1
  rw [uy] at r2
  rw [uz] at r3
  have k1 := key _ _ r1 d1
  have k2 := key _ _ r2 d2
  have k3 := key _ _ r3 d3
  have ee : plLen2 (plUnit x) = ⟨(ivSqr (plUnit x).x).lo + (ivSqr (plUnit x).y).lo + (ivSqr (plUnit x).z).lo, (ivSqr (plUnit x).x).hi + (ivSqr (plUnit x).y).hi + (ivSqr (plUnit x).z).hi, false⟩ := re
  have npos : 0 < n := by omega
  rw [ux, uy, uz] at ee
  unfold ivHas
  rw [hs, ee]
  simp only [Bool.true_and, Bool.and_eq_true, decide_eq_true_eq]
  have z1 : ((ivSqr (ivDiv x.x L)).lo + (ivSqr (ivDiv x.y L)).lo + (ivSqr (ivDiv x.z L)).lo) * n ≤ 65536 * n := by
    rw [Int.add_mul, Int.add_mul]; subst hn; omega
  have z2 : 65536 * n ≤ ((ivSqr (ivDiv x.x L)).hi + (ivSqr (ivDiv x.y L)).hi + (ivSqr (ivDiv x.z L)).hi) * n := by
    rw [Int.add_mul, Int.add_mul]; subst hn; omega
  exact ⟨Int.le_of_mul_le_mul_right z1 npos, Int.le_of_mul_le_mul_right z2 npos⟩

/-! Pythagorean ways. -/
end Go.Proofs.Ytggohceeeggnmaa

namespace Go.Proofs.Ytggohceeeggnmaa
set_option linter.unusedVariables false
open Go.ChangeShapes Go.WideShapes Go.ChangeAt Go.RowKit

theorem agg_pl (w : World) : (isAgg 30).run Try.prog w = .ok true w := by kernel_rfl
theorem size_pl (w : World) : (sizeOf 30).run Try.prog w = .ok 9 w := by kernel_rfl
theorem agg_wy (w : World) : (isAgg 56).run Try.prog w = .ok true w := by kernel_rfl
theorem size_wy (w : World) : (sizeOf 56).run Try.prog w = .ok 18 w := by kernel_rfl

@[go_sem ↓ high] theorem storeVar_pl (a : Addr) (v : Value) : storeVar 30 a v = storeWhole 30 a v := rfl
@[go_sem ↓ high] theorem storeVar_wy (a : Addr) (v : Value) : storeVar 56 a v = storeWhole 56 a v := rfl
@[go_sem ↓ high] theorem loadVar_wy (a : Addr) : loadVar 56 a = loadWhole 56 a := rfl

@[go_sem] theorem run_store_pl (w : World) (b : Nat) (x0 x1 y0 y1 z0 z1 : Int) (x y z : Bool) :
    (storeWhole 30 ⟨b, 0, none⟩ (.agg #[.int .i64 x0, .int .i64 x1, .bool x, .int .i64 y0, .int .i64 y1, .bool y, .int .i64 z0, .int .i64 z1, .bool z])).run Try.prog w =
      if World.cellsIn w b = 9 then .ok () (w.setRow b #[.int .i64 x0, .int .i64 x1, .bool x, .int .i64 y0, .int .i64 y1, .bool y, .int .i64 z0, .int .i64 z1, .bool z]) else (storeElse 30 ⟨b, 0, none⟩ (.agg #[.int .i64 x0, .int .i64 x1, .bool x, .int .i64 y0, .int .i64 y1, .bool y, .int .i64 z0, .int .i64 z1, .bool z])).run Try.prog w := by
  split
  · rename_i h
    exact run_storeWhole (vs := [.int .i64 x0, .int .i64 x1, .bool x, .int .i64 y0, .int .i64 y1, .bool y, .int .i64 z0, .int .i64 z1, .bool z]) (size_pl w) rfl (by decide) (by simp [Value.oneCell']) h
  · rfl

@[go_sem] theorem run_store_wy (w : World) (b : Nat) (x0 x1 y0 y1 z0 z1 u0 u1 v0 v1 p0 p1 : Int) (x y z u v p : Bool) :
    (storeWhole 56 ⟨b, 0, none⟩ (.agg #[.int .i64 x0, .int .i64 x1, .bool x, .int .i64 y0, .int .i64 y1, .bool y, .int .i64 z0, .int .i64 z1, .bool z, .int .i64 u0, .int .i64 u1, .bool u, .int .i64 v0, .int .i64 v1, .bool v, .int .i64 p0, .int .i64 p1, .bool p])).run Try.prog w =
      if World.cellsIn w b = 18 then .ok () (w.setRow b #[.int .i64 x0, .int .i64 x1, .bool x, .int .i64 y0, .int .i64 y1, .bool y, .int .i64 z0, .int .i64 z1, .bool z, .int .i64 u0, .int .i64 u1, .bool u, .int .i64 v0, .int .i64 v1, .bool v, .int .i64 p0, .int .i64 p1, .bool p]) else (storeElse 56 ⟨b, 0, none⟩ (.agg #[.int .i64 x0, .int .i64 x1, .bool x, .int .i64 y0, .int .i64 y1, .bool y, .int .i64 z0, .int .i64 z1, .bool z, .int .i64 u0, .int .i64 u1, .bool u, .int .i64 v0, .int .i64 v1, .bool v, .int .i64 p0, .int .i64 p1, .bool p])).run Try.prog w := by
  split
  · rename_i h
    exact run_storeWhole (vs := [.int .i64 x0, .int .i64 x1, .bool x, .int .i64 y0, .int .i64 y1, .bool y, .int .i64 z0, .int .i64 z1, .bool z, .int .i64 u0, .int .i64 u1, .bool u, .int .i64 v0, .int .i64 v1, .bool v, .int .i64 p0, .int .i64 p1, .bool p]) (size_wy w) rfl (by decide) (by simp [Value.oneCell']) h
  · rfl

@[go_sem] theorem run_load_wy (w : World) (b : Nat) :
    (loadWhole 56 ⟨b, 0, none⟩).run Try.prog w = if World.cellsIn w b = 18 then .ok (.agg (World.cellsOf w b)) w else (loadElse 56 ⟨b, 0, none⟩).run Try.prog w := by
  split
  · rename_i h
    exact run_loadWhole (agg_wy w) (size_wy w) (by decide) h
  · rfl

end Go.Proofs.Ytggohceeeggnmaa

namespace Go.Proofs.Ytggohceeeggnmaa
set_option linter.unusedVariables false
open Go.ChangeShapes Go.WideShapes Go.ChangeAt Go.RowKit

set_option maxHeartbeats 4000000 in
theorem rvlen2_c (a : Pl) (W : World) :
    Calls Try.prog 94 #[plV a] W fun e w' => e = .returned (ivV (plLen2 a)) ∧ More W w' := by
  go_enter Try.func94, Try.ntmps94
  go_wp2_with (first | (go_at_call 58; (with_reducible refine (radd_c _ _ _).mono ?_); rintro e w' ⟨rfl, r, rfl⟩) | (go_at_call 58; (with_reducible refine (radd_c _ ⟨_, _, _⟩ _).mono ?_); rintro e w' ⟨rfl, r, rfl⟩) | (go_at_call 58; (with_reducible refine (radd_c ⟨_, _, _⟩ _ _).mono ?_); rintro e w' ⟨rfl, r, rfl⟩) | (go_at_call 58; (with_reducible refine (radd_c ⟨_, _, _⟩ ⟨_, _, _⟩ _).mono ?_); rintro e w' ⟨rfl, r, rfl⟩) | (go_at_call 59; (with_reducible refine (rsqr_c _ _).mono ?_); rintro e w' ⟨rfl, r, rfl⟩) | (go_at_call 59; (with_reducible refine (rsqr_c ⟨_, _, _⟩ _).mono ?_); rintro e w' ⟨rfl, r, rfl⟩) | ((with_reducible show Code.wp _ (Code.region 1 _ true) _ _ _); (with_reducible refine wp_more_tailq_m (id := 1) 11 ?_ ?_ ?_); kernel_rfl; kernel_rfl; (try simp only [List.take_succ_cons, List.take_zero, List.drop_succ_cons, List.drop_zero]); (repeat (any_goals (first | go_big_quiet_step ((first | (go_at_call 58; (with_reducible apply quiet_call); with_reducible exact radd_c _ _ _) | (go_at_call 58; (with_reducible apply quiet_call); with_reducible exact radd_c _ ⟨_, _, _⟩ _) | (go_at_call 58; (with_reducible apply quiet_call); with_reducible exact radd_c ⟨_, _, _⟩ _ _) | (go_at_call 58; (with_reducible apply quiet_call); with_reducible exact radd_c ⟨_, _, _⟩ ⟨_, _, _⟩ _) | (go_at_call 59; (with_reducible apply quiet_call); with_reducible exact rsqr_c _ _) | (go_at_call 59; (with_reducible apply quiet_call); with_reducible exact rsqr_c ⟨_, _, _⟩ _))) | quiet_step ((first | (go_at_call 58; (with_reducible apply quiet_call); with_reducible exact radd_c _ _ _) | (go_at_call 58; (with_reducible apply quiet_call); with_reducible exact radd_c _ ⟨_, _, _⟩ _) | (go_at_call 58; (with_reducible apply quiet_call); with_reducible exact radd_c ⟨_, _, _⟩ _ _) | (go_at_call 58; (with_reducible apply quiet_call); with_reducible exact radd_c ⟨_, _, _⟩ ⟨_, _, _⟩ _) | (go_at_call 59; (with_reducible apply quiet_call); with_reducible exact rsqr_c _ _) | (go_at_call 59; (with_reducible apply quiet_call); with_reducible exact rsqr_c ⟨_, _, _⟩ _)))))); (with_reducible refine wpQuiet_nil ?_); intro r) | ((with_reducible show Code.wp _ (Code.region 1 _ true) _ _ _); (with_reducible refine wp_more_tailq (id := 1) 11 ?_ ?_ ?_); kernel_rfl; kernel_rfl; (try simp only [List.take_succ_cons, List.take_zero, List.drop_succ_cons, List.drop_zero]); (repeat (any_goals (first | go_big_quiet_step ((first | (go_at_call 58; (with_reducible apply quiet_call); with_reducible exact radd_c _ _ _) | (go_at_call 58; (with_reducible apply quiet_call); with_reducible exact radd_c _ ⟨_, _, _⟩ _) | (go_at_call 58; (with_reducible apply quiet_call); with_reducible exact radd_c ⟨_, _, _⟩ _ _) | (go_at_call 58; (with_reducible apply quiet_call); with_reducible exact radd_c ⟨_, _, _⟩ ⟨_, _, _⟩ _) | (go_at_call 59; (with_reducible apply quiet_call); with_reducible exact rsqr_c _ _) | (go_at_call 59; (with_reducible apply quiet_call); with_reducible exact rsqr_c ⟨_, _, _⟩ _))) | quiet_step ((first | (go_at_call 58; (with_reducible apply quiet_call); with_reducible exact radd_c _ _ _) | (go_at_call 58; (with_reducible apply quiet_call); with_reducible exact radd_c _ ⟨_, _, _⟩ _) | (go_at_call 58; (with_reducible apply quiet_call); with_reducible exact radd_c ⟨_, _, _⟩ _ _) | (go_at_call 58; (with_reducible apply quiet_call); with_reducible exact radd_c ⟨_, _, _⟩ ⟨_, _, _⟩ _) | (go_at_call 59; (with_reducible apply quiet_call); with_reducible exact rsqr_c _ _) | (go_at_call 59; (with_reducible apply quiet_call); with_reducible exact rsqr_c ⟨_, _, _⟩ _)))))); (with_reducible refine wpQuiet_nil ?_); intro r))
  go_returns
  exact ⟨rfl, (by repeat (first | exact More.refl _ | refine More.alloc ?_ _ | refine More.more ?_ _ | refine More.drew ?_ | refine More.drewN ?_ _))⟩

set_option maxHeartbeats 4000000 in
theorem rvunit_c (a : Pl) (W : World) :
    Calls Try.prog 53 #[plV a] W fun e w' => e = .returned (plV (plUnit a)) ∧ More W w' := by
  go_enter Try.func53, Try.ntmps53
  go_wp2_with (first | (go_at_call 86; (with_reducible refine (rdiviv_c _ _ _).mono ?_); rintro e w' ⟨rfl, r, rfl⟩) | (go_at_call 86; (with_reducible refine (rdiviv_c _ ⟨_, _, _⟩ _).mono ?_); rintro e w' ⟨rfl, r, rfl⟩) | (go_at_call 86; (with_reducible refine (rdiviv_c ⟨_, _, _⟩ _ _).mono ?_); rintro e w' ⟨rfl, r, rfl⟩) | (go_at_call 86; (with_reducible refine (rdiviv_c ⟨_, _, _⟩ ⟨_, _, _⟩ _).mono ?_); rintro e w' ⟨rfl, r, rfl⟩) | (go_at_call 93; (with_reducible refine (riroot_c _ _).mono ?_); rintro e w' ⟨rfl, r, rfl⟩) | (go_at_call 93; (with_reducible refine (riroot_c ⟨_, _, _⟩ _).mono ?_); rintro e w' ⟨rfl, r, rfl⟩) | (go_at_call 94; (with_reducible refine (rvlen2_c _ _).mono ?_); rintro e w' ⟨rfl, r, rfl⟩) | (go_at_call 94; (with_reducible refine (rvlen2_c ⟨_, _, _⟩ _).mono ?_); rintro e w' ⟨rfl, r, rfl⟩) | (go_at_call 94; (with_reducible refine (rvlen2_c ⟨⟨_, _, _⟩, ⟨_, _, _⟩, ⟨_, _, _⟩⟩ _).mono ?_); rintro e w' ⟨rfl, r, rfl⟩) | ((with_reducible show Code.wp _ (Code.region 2 _ true) _ _ _); (with_reducible refine wp_more_tailq_m (id := 2) 13 ?_ ?_ ?_); kernel_rfl; kernel_rfl; (try simp only [List.take_succ_cons, List.take_zero, List.drop_succ_cons, List.drop_zero]); (repeat (any_goals (first | go_big_quiet_step ((first | (go_at_call 86; (with_reducible apply quiet_call); with_reducible exact rdiviv_c _ _ _) | (go_at_call 86; (with_reducible apply quiet_call); with_reducible exact rdiviv_c _ ⟨_, _, _⟩ _) | (go_at_call 86; (with_reducible apply quiet_call); with_reducible exact rdiviv_c ⟨_, _, _⟩ _ _) | (go_at_call 86; (with_reducible apply quiet_call); with_reducible exact rdiviv_c ⟨_, _, _⟩ ⟨_, _, _⟩ _))) | quiet_step ((first | (go_at_call 86; (with_reducible apply quiet_call); with_reducible exact rdiviv_c _ _ _) | (go_at_call 86; (with_reducible apply quiet_call); with_reducible exact rdiviv_c _ ⟨_, _, _⟩ _) | (go_at_call 86; (with_reducible apply quiet_call); with_reducible exact rdiviv_c ⟨_, _, _⟩ _ _) | (go_at_call 86; (with_reducible apply quiet_call); with_reducible exact rdiviv_c ⟨_, _, _⟩ ⟨_, _, _⟩ _)))))); (with_reducible refine wpQuiet_nil ?_); intro r) | ((with_reducible show Code.wp _ (Code.region 2 _ true) _ _ _); (with_reducible refine wp_more_tailq (id := 2) 13 ?_ ?_ ?_); kernel_rfl; kernel_rfl; (try simp only [List.take_succ_cons, List.take_zero, List.drop_succ_cons, List.drop_zero]); (repeat (any_goals (first | go_big_quiet_step ((first | (go_at_call 86; (with_reducible apply quiet_call); with_reducible exact rdiviv_c _ _ _) | (go_at_call 86; (with_reducible apply quiet_call); with_reducible exact rdiviv_c _ ⟨_, _, _⟩ _) | (go_at_call 86; (with_reducible apply quiet_call); with_reducible exact rdiviv_c ⟨_, _, _⟩ _ _) | (go_at_call 86; (with_reducible apply quiet_call); with_reducible exact rdiviv_c ⟨_, _, _⟩ ⟨_, _, _⟩ _))) | quiet_step ((first | (go_at_call 86; (with_reducible apply quiet_call); with_reducible exact rdiviv_c _ _ _) | (go_at_call 86; (with_reducible apply quiet_call); with_reducible exact rdiviv_c _ ⟨_, _, _⟩ _) | (go_at_call 86; (with_reducible apply quiet_call); with_reducible exact rdiviv_c ⟨_, _, _⟩ _ _) | (go_at_call 86; (with_reducible apply quiet_call); with_reducible exact rdiviv_c ⟨_, _, _⟩ ⟨_, _, _⟩ _)))))); (with_reducible refine wpQuiet_nil ?_); intro r))
  go_returns
  exact ⟨rfl, (by repeat (first | exact More.refl _ | refine More.alloc ?_ _ | refine More.more ?_ _ | refine More.drew ?_ | refine More.drewN ?_ _))⟩

end Go.Proofs.Ytggohceeeggnmaa
